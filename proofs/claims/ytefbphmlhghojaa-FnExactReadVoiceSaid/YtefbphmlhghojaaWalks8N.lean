/- Chapter 8 in the model: numbers and the texts of notes. -/
import Derived.Test.YtefbphmlhghojaaWalksText
import Derived.Test.YtefbphmlhghojaaWalks5S
import Derived.Test.YtefbphmlhghojaaPure8
import Derived.Test.YtefbphmlhghojaaWalks5N
import Derived.Test.YtefbphmlhghojaaWalksRead
import Derived.Test.YtefbphmlhghojaaWalks5H
namespace Go.Proofs.Ytefbphmlhghojaa
set_option linter.unusedSimpArgs false
set_option linter.unusedVariables false
open Go.RowKit

/-- a number's text; digits in front of a text. -/
def nuB (k : Nat) : ByteArray := ⟨(nuL k).toArray⟩
def ndB (m : Nat) (T : ByteArray) : ByteArray := if h : m < 10 then T else ndB (m / 10) (octB ((m / 10 : Nat) % 10 : Int) ++ T)
termination_by m
decreasing_by omega
theorem ndB_low {m : Nat} (h : m < 10) (T : ByteArray) : ndB m T = T := by rw [ndB, dif_pos h]
theorem ndB_up {m : Nat} (h : 9 < m) (T : ByteArray) : ndB m T = ndB (m / 10) (octB ((m / 10 : Nat) % 10 : Int) ++ T) := by rw [ndB, dif_neg (by omega)]
theorem oct_dg (k : Nat) : octB (k : Int) = ⟨#[dgN k]⟩ := rfl
theorem nd_nu {k : Nat} (h : k < 1000) : ndB k (octB ((k : Int) % 10)) = nuB k := by
  have e0 : ((k : Int) % 10) = ((k % 10 : Nat) : Int) := by omega
  rw [e0]
  unfold nuB nuL
  by_cases h1 : k < 10
  · rw [ndB_low h1, if_pos h1, Nat.mod_eq_of_lt h1, oct_dg]
  · rw [ndB_up (by omega), if_neg h1, show ((k / 10 : Nat) % 10 : Int) = ((k / 10 % 10 : Nat) : Int) by omega]
    by_cases h2 : k < 100
    · rw [ndB_low (by omega), if_pos h2, Nat.mod_eq_of_lt (a := k / 10) (by omega)]; rfl
    · rw [ndB_up (by omega), ndB_low (by omega), if_neg h2, show ((k / 10 / 10 : Nat) % 10 : Int) = ((k / 100 : Nat) : Int) by omega]; rfl
theorem nuB_size (k : Nat) : 1 ≤ (nuB k).size ∧ (nuB k).size ≤ 3 := nuL_len k

theorem conv_nu (o : Int) (W : World) : (convert 55 9 (.slice (some ⟨W.heap.size, 0, none⟩) 1 1)).run Try.prog (W.alloc (.cells #[.int .u8 (48 + o)] 5)) = .ok (.string (octB o)) (W.alloc (.cells #[.int .u8 (48 + o)] 5)) :=
  run_convert_bytes_arg _ 55 5 Try.underlying55 Try.underlying5 W.heap.size 0 1 1 [48 + o] rfl (fun i hi => by
    obtain rfl : i = 0 := by omega
    simp) 9 Try.underlying9

set_option maxHeartbeats 4000000 in
theorem l8nS_any (k : Nat) (w : World) (h : k ≤ 768) :
    Calls Try.prog 23 #[.int .i64 k] w fun e w' => e = .returned (.string (nuB k)) ∧ Below w.heap.size w w' := by
  have hO := Own.start w
  have hF := True.intro
  have HE := hid (nd_nu (k := k) (by omega))
  have e1 : (k : Int).tmod 10 = (k : Int) % 10 := Int.tmod_eq_emod_of_nonneg (by omega)
  have hcv := fun W => conv_nu ((k : Int) % 10) W
  have hoz : (octB ((k : Int) % 10)).size = 1 := rfl
  go_enter Try.func23, Try.ntmps23
  go_wp2_with fail
  go_loopw [0, 3] (fun s t wr => ∃ (m j : Nat) (T : ByteArray), m ≤ 768 ∧ j ≤ 3 ∧ T.size + j = 4 ∧ Hid (m < 10 ^ j) ∧ s = .int .i64 m ∧ t = .string T ∧ Hid (ndB m T = nuB k) ∧ Own w.heap.size (Below w.heap.size w) wr []) (fun s _ _ => (intOf s).toNat)
  case atStart => exact ⟨k, 3, _, h, by omega, rfl, (show k < 10 ^ 3 by omega), rfl, rfl, HE, hO.below (below1 _)⟩
  case round =>
    clear hO hF HE e1 hcv hoz
    obtain ⟨m, j, T, hm, hj, hT, HJ, rfl, rfl, HE, hO⟩ := hrel
    obtain ⟨ts, hts⟩ : ∃ ts, T.size = ts := ⟨_, rfl⟩
    rw [hts] at hT
    have hF := True.intro
    by_cases hz : m < 10
    · have HE2 := hid (show T = nuB k by rw [← HE.out, ndB_low hz])
      have hz1 : (m : Int) < 10 := by omega
      go_wp2_with fail
      go_ret
      exact ⟨by rw [HE2.out]; rfl, hO.base⟩
    · have hm0 : 9 < m := by omega
      have hm1 : (9 : Int) < m := by omega
      have HE2 := hid (show ndB (m / 10) (octB ((m / 10 : Nat) % 10 : Int) ++ T) = nuB k by rw [← HE.out, ndB_up hm0])
      have e2 : (m : Int).tdiv 10 = ((m / 10 : Nat) : Int) := by rw [Int.tdiv_eq_ediv_of_nonneg (by omega)]; omega
      obtain ⟨q, hq⟩ : ∃ q, m / 10 = q := ⟨_, rfl⟩
      rw [hq] at HE2 e2
      have e1 : (q : Int).tmod 10 = (q : Int) % 10 := Int.tmod_eq_emod_of_nonneg (by omega)
      have hcv := fun W => conv_nu ((q : Int) % 10) W
      have hq1 : q < m ∧ q ≤ 76 := by omega
      have hj1 : 1 ≤ j ∧ q < 10 ^ (j - 1) := by
        have h := HJ.out
        cases j with
        | zero => simp at h; omega
        | succ j => exact ⟨by omega, by rw [Nat.add_sub_cancel, ← hq]; exact Nat.div_lt_of_lt_mul (by rw [Nat.pow_succ] at h; omega)⟩
      have HJ2 := hid hj1.2
      have hj2 := hj1.1
      clear hz HE hj1 hq
      have hoz : (octB ((q : Int) % 10)).size = 1 := rfl
      have hsz : (octB ((q : Int) % 10) ++ T).size = 1 + ts := by rw [ByteArray.size_append, hts]; rfl
      go_wp2_with fail
      go_roundw
      case rel => exact ⟨q, j - 1, octB ((q : Int) % 10) ++ T, by omega, by omega, by omega, HJ2.out, rfl, rfl, HE2.out, hO.below (below1 _)⟩
      case measure => simp [intOf]; omega
theorem l8n_int (t : Int) (w : World) (h0 : 0 ≤ t) (h1 : t ≤ 768) :
    Calls Try.prog 23 #[.int .i64 t] w fun e w' => e = .returned (.string (nuB t.toNat)) ∧ Below w.heap.size w w' := by
  obtain ⟨k, rfl⟩ : ∃ k : Nat, t = k := ⟨t.toNat, by omega⟩
  have := l8nS_any k w (by omega)
  rwa [show (k : Int).toNat = k from Int.toNat_natCast k]
/-! ### The text of a note -/

theorem mkB_app (a b : List UInt8) : (⟨a.toArray⟩ : ByteArray) ++ ⟨b.toArray⟩ = ⟨(a ++ b).toArray⟩ := by
  apply ByteArray.ext; simp [ByteArray.data_append]
theorem nt_rest {n : Nt} (h : nvB n = true) (hr : n.r = true) (hy : n.y = false) : ((⟨#[114]⟩ : ByteArray) ++ ⟨#[47]⟩) ++ nuB n.t.toNat = ntB n := by
  rw [ntB_yes h]
  unfold nxL hdL
  rw [if_pos hr, hy]
  show ((⟨[114].toArray⟩ : ByteArray) ++ ⟨[47].toArray⟩) ++ ⟨(nuL n.t.toNat).toArray⟩ = _
  rw [mkB_app, mkB_app]
  simp [tiS]
theorem nt_tone {n : Nt} (h : nvB n = true) (hr : n.r = false) (hy : n.y = false) : (textB n.s n.a n.o ++ (⟨#[47]⟩ : ByteArray)) ++ nuB n.t.toNat = ntB n := by
  have hp := (nvB_iff.1 h).2.2
  obtain ⟨⟨a1, a2⟩, _, _⟩ := pvB_iff.1 hp
  rw [ntB_yes h, textB, if_pos hp, text_mk a1 a2]
  unfold nxL hdL
  rw [hr, hy]
  show ((⟨_⟩ : ByteArray) ++ ⟨[47].toArray⟩) ++ ⟨(nuL n.t.toNat).toArray⟩ = _
  rw [mkB_app, mkB_app]
  simp [tiS]
theorem nt_tie {n : Nt} (h : nvB n = true) (hr : n.r = false) (hy : n.y = true) : ((textB n.s n.a n.o ++ (⟨#[47]⟩ : ByteArray)) ++ nuB n.t.toNat) ++ (⟨#[126]⟩ : ByteArray) = ntB n := by
  have hp := (nvB_iff.1 h).2.2
  obtain ⟨⟨a1, a2⟩, _, _⟩ := pvB_iff.1 hp
  rw [ntB_yes h, textB, if_pos hp, text_mk a1 a2]
  unfold nxL hdL
  rw [hr, hy]
  show (((⟨_⟩ : ByteArray) ++ ⟨[47].toArray⟩) ++ ⟨(nuL n.t.toNat).toArray⟩) ++ ⟨[126].toArray⟩ = _
  rw [mkB_app, mkB_app, mkB_app]
  simp [tiS]
theorem text_len {s a o : Int} (h : pvB s a o = true) : (textB s a o).size ≤ 4 := by
  obtain ⟨_, ⟨h3, h4⟩, _⟩ := pvB_iff.1 h
  rw [(read_text h).2.2.2.2]; omega

set_option maxHeartbeats 4000000 in
theorem ntS_any (x : Nt) (w : World) :
    Calls Try.prog 14 #[.agg #[.bool x.r, .int .i64 x.s, .int .i64 x.a, .int .i64 x.o, .int .i64 x.t, .bool x.y]] w fun e w' => e = .returned (.string (ntB x)) ∧ Below w.heap.size w w' := by
  have hO := Own.start w
  have hF := True.intro
  have HV := hid (fun W => nvS_any x W)
  cases hn : nvB x
  · have HE := hid (ntB_no hn)
    rw [hn] at HV
    clear hn
    go_enter Try.func14, Try.ntmps14
    go_wp2_with (go_at_call 22; apply own_at hO; (repeat (first | (with_reducible exact hO) | (with_reducible apply Own.alloc) | (with_reducible apply Own.drew) | ((with_reducible apply Own.set_at); (focus (show _ ≤ _; omega))))); have hG := hF; clear hF; clear hO; intro hO; refine own_call hO (fun hB => HV.out _) ?_; clear hO; intro w1 hO; (try simp only [World.size_alloc1, World.size_drew, Nat.reduceAdd] at hO); (try simp only [upd, updI, List.map_cons, List.map_nil, eq_self, if_true, if_false, reduceIte, Nat.add_eq_left, Nat.left_eq_add, Nat.reduceEqDiff, List.set_cons_zero, List.set_cons_succ, hG] at hO); clear hG; have hF := hO; (try simp only [Own, Item.Holds, apartI, CellsAt, Nat.reduceAdd, Nat.zero_add, List.mem_cons, List.not_mem_nil, or_false, forall_eq_or_imp, forall_eq, ne_eq, false_imp_iff, implies_true, and_true] at hF))
    go_ret
    exact ⟨by rw [HE.out]; rfl, Own.base (by (repeat (first | (with_reducible exact hO) | (with_reducible apply Own.alloc) | (with_reducible apply Own.drew) | ((with_reducible apply Own.set_at); (focus (show _ ≤ _; omega))))))⟩
  · rw [hn] at HV
    obtain ⟨t2, t1⟩ := (nvB_iff.1 hn).2.1
    have t0 : 0 ≤ x.t := by omega
    have hs := nuB_size x.t.toNat
    have hp := text_len (nvB_iff.1 hn).2.2
    have HR := (nvB_iff.1 hn).1
    obtain ⟨ns, hns⟩ : ∃ ns, (nuB x.t.toNat).size = ns := ⟨_, rfl⟩
    obtain ⟨ps, hps⟩ : ∃ ps, (textB x.s x.a x.o).size = ps := ⟨_, rfl⟩
    rw [hns] at hs
    rw [hps] at hp
    have b1 : ((⟨#[114]⟩ : ByteArray) ++ (⟨#[47]⟩ : ByteArray)).size = 2 := rfl
    have b2 : (textB x.s x.a x.o ++ (⟨#[47]⟩ : ByteArray)).size = ps + 1 := by rw [ByteArray.size_append, hps]; rfl
    have b3 : (((⟨#[114]⟩ : ByteArray) ++ (⟨#[47]⟩ : ByteArray)) ++ nuB x.t.toNat).size = 2 + ns := by rw [ByteArray.size_append, hns, b1]
    have b4 : ((textB x.s x.a x.o ++ (⟨#[47]⟩ : ByteArray)) ++ nuB x.t.toNat).size = ps + 1 + ns := by rw [ByteArray.size_append, hns, b2]
    cases hr : x.r
    · cases hy : x.y
      · have HE := hid (nt_tone hn hr hy)
        rw [hr, hy] at HV
        clear hn HR
        go_enter Try.func14, Try.ntmps14
        go_wp2_with (first | (go_at_call 22; apply own_at hO; (repeat (first | (with_reducible exact hO) | (with_reducible apply Own.alloc) | (with_reducible apply Own.drew) | ((with_reducible apply Own.set_at); (focus (show _ ≤ _; omega))))); have hG := hF; clear hF; clear hO; intro hO; refine own_call hO (fun hB => HV.out _) ?_; clear hO; intro w1 hO; (try simp only [World.size_alloc1, World.size_drew, Nat.reduceAdd] at hO); (try simp only [upd, updI, List.map_cons, List.map_nil, eq_self, if_true, if_false, reduceIte, Nat.add_eq_left, Nat.left_eq_add, Nat.reduceEqDiff, List.set_cons_zero, List.set_cons_succ, hG] at hO); clear hG; have hF := hO; (try simp only [Own, Item.Holds, apartI, CellsAt, Nat.reduceAdd, Nat.zero_add, List.mem_cons, List.not_mem_nil, or_false, forall_eq_or_imp, forall_eq, ne_eq, false_imp_iff, implies_true, and_true] at hF)) | (go_at_call 21; apply own_at hO; (repeat (first | (with_reducible exact hO) | (with_reducible apply Own.alloc) | (with_reducible apply Own.drew) | ((with_reducible apply Own.set_at); (focus (show _ ≤ _; omega))))); have hG := hF; clear hF; clear hO; intro hO; refine own_call hO (fun hB => textS_any _ _ _ _) ?_; clear hO; intro w1 hO; (try simp only [World.size_alloc1, World.size_drew, Nat.reduceAdd] at hO); (try simp only [upd, updI, List.map_cons, List.map_nil, eq_self, if_true, if_false, reduceIte, Nat.add_eq_left, Nat.left_eq_add, Nat.reduceEqDiff, List.set_cons_zero, List.set_cons_succ, hG] at hO); clear hG; have hF := hO; (try simp only [Own, Item.Holds, apartI, CellsAt, Nat.reduceAdd, Nat.zero_add, List.mem_cons, List.not_mem_nil, or_false, forall_eq_or_imp, forall_eq, ne_eq, false_imp_iff, implies_true, and_true] at hF)) | (go_at_call 23; apply own_at hO; (repeat (first | (with_reducible exact hO) | (with_reducible apply Own.alloc) | (with_reducible apply Own.drew) | ((with_reducible apply Own.set_at); (focus (show _ ≤ _; omega))))); have hG := hF; clear hF; clear hO; intro hO; refine own_call hO (fun hB => l8n_int _ _ t0 t1) ?_; clear hO; intro w1 hO; (try simp only [World.size_alloc1, World.size_drew, Nat.reduceAdd] at hO); (try simp only [upd, updI, List.map_cons, List.map_nil, eq_self, if_true, if_false, reduceIte, Nat.add_eq_left, Nat.left_eq_add, Nat.reduceEqDiff, List.set_cons_zero, List.set_cons_succ, hG] at hO); clear hG; have hF := hO; (try simp only [Own, Item.Holds, apartI, CellsAt, Nat.reduceAdd, Nat.zero_add, List.mem_cons, List.not_mem_nil, or_false, forall_eq_or_imp, forall_eq, ne_eq, false_imp_iff, implies_true, and_true] at hF)))
        go_ret
        exact ⟨by rw [← HE.out]; rfl, Own.base (by (repeat (first | (with_reducible exact hO) | (with_reducible apply Own.alloc) | (with_reducible apply Own.drew) | ((with_reducible apply Own.set_at); (focus (show _ ≤ _; omega))))))⟩
      · have HE := hid (nt_tie hn hr hy)
        rw [hr, hy] at HV
        clear hn HR
        go_enter Try.func14, Try.ntmps14
        go_wp2_with (first | (go_at_call 22; apply own_at hO; (repeat (first | (with_reducible exact hO) | (with_reducible apply Own.alloc) | (with_reducible apply Own.drew) | ((with_reducible apply Own.set_at); (focus (show _ ≤ _; omega))))); have hG := hF; clear hF; clear hO; intro hO; refine own_call hO (fun hB => HV.out _) ?_; clear hO; intro w1 hO; (try simp only [World.size_alloc1, World.size_drew, Nat.reduceAdd] at hO); (try simp only [upd, updI, List.map_cons, List.map_nil, eq_self, if_true, if_false, reduceIte, Nat.add_eq_left, Nat.left_eq_add, Nat.reduceEqDiff, List.set_cons_zero, List.set_cons_succ, hG] at hO); clear hG; have hF := hO; (try simp only [Own, Item.Holds, apartI, CellsAt, Nat.reduceAdd, Nat.zero_add, List.mem_cons, List.not_mem_nil, or_false, forall_eq_or_imp, forall_eq, ne_eq, false_imp_iff, implies_true, and_true] at hF)) | (go_at_call 21; apply own_at hO; (repeat (first | (with_reducible exact hO) | (with_reducible apply Own.alloc) | (with_reducible apply Own.drew) | ((with_reducible apply Own.set_at); (focus (show _ ≤ _; omega))))); have hG := hF; clear hF; clear hO; intro hO; refine own_call hO (fun hB => textS_any _ _ _ _) ?_; clear hO; intro w1 hO; (try simp only [World.size_alloc1, World.size_drew, Nat.reduceAdd] at hO); (try simp only [upd, updI, List.map_cons, List.map_nil, eq_self, if_true, if_false, reduceIte, Nat.add_eq_left, Nat.left_eq_add, Nat.reduceEqDiff, List.set_cons_zero, List.set_cons_succ, hG] at hO); clear hG; have hF := hO; (try simp only [Own, Item.Holds, apartI, CellsAt, Nat.reduceAdd, Nat.zero_add, List.mem_cons, List.not_mem_nil, or_false, forall_eq_or_imp, forall_eq, ne_eq, false_imp_iff, implies_true, and_true] at hF)) | (go_at_call 23; apply own_at hO; (repeat (first | (with_reducible exact hO) | (with_reducible apply Own.alloc) | (with_reducible apply Own.drew) | ((with_reducible apply Own.set_at); (focus (show _ ≤ _; omega))))); have hG := hF; clear hF; clear hO; intro hO; refine own_call hO (fun hB => l8n_int _ _ t0 t1) ?_; clear hO; intro w1 hO; (try simp only [World.size_alloc1, World.size_drew, Nat.reduceAdd] at hO); (try simp only [upd, updI, List.map_cons, List.map_nil, eq_self, if_true, if_false, reduceIte, Nat.add_eq_left, Nat.left_eq_add, Nat.reduceEqDiff, List.set_cons_zero, List.set_cons_succ, hG] at hO); clear hG; have hF := hO; (try simp only [Own, Item.Holds, apartI, CellsAt, Nat.reduceAdd, Nat.zero_add, List.mem_cons, List.not_mem_nil, or_false, forall_eq_or_imp, forall_eq, ne_eq, false_imp_iff, implies_true, and_true] at hF)))
        go_ret
        exact ⟨by rw [← HE.out]; rfl, Own.base (by (repeat (first | (with_reducible exact hO) | (with_reducible apply Own.alloc) | (with_reducible apply Own.drew) | ((with_reducible apply Own.set_at); (focus (show _ ≤ _; omega))))))⟩
    · have hy := (HR hr).1
      have HE := hid (nt_rest hn hr hy)
      rw [hr, hy] at HV
      clear hn HR
      rw [hy]
      go_enter Try.func14, Try.ntmps14
      go_wp2_with (first | (go_at_call 22; apply own_at hO; (repeat (first | (with_reducible exact hO) | (with_reducible apply Own.alloc) | (with_reducible apply Own.drew) | ((with_reducible apply Own.set_at); (focus (show _ ≤ _; omega))))); have hG := hF; clear hF; clear hO; intro hO; refine own_call hO (fun hB => HV.out _) ?_; clear hO; intro w1 hO; (try simp only [World.size_alloc1, World.size_drew, Nat.reduceAdd] at hO); (try simp only [upd, updI, List.map_cons, List.map_nil, eq_self, if_true, if_false, reduceIte, Nat.add_eq_left, Nat.left_eq_add, Nat.reduceEqDiff, List.set_cons_zero, List.set_cons_succ, hG] at hO); clear hG; have hF := hO; (try simp only [Own, Item.Holds, apartI, CellsAt, Nat.reduceAdd, Nat.zero_add, List.mem_cons, List.not_mem_nil, or_false, forall_eq_or_imp, forall_eq, ne_eq, false_imp_iff, implies_true, and_true] at hF)) | (go_at_call 21; apply own_at hO; (repeat (first | (with_reducible exact hO) | (with_reducible apply Own.alloc) | (with_reducible apply Own.drew) | ((with_reducible apply Own.set_at); (focus (show _ ≤ _; omega))))); have hG := hF; clear hF; clear hO; intro hO; refine own_call hO (fun hB => textS_any _ _ _ _) ?_; clear hO; intro w1 hO; (try simp only [World.size_alloc1, World.size_drew, Nat.reduceAdd] at hO); (try simp only [upd, updI, List.map_cons, List.map_nil, eq_self, if_true, if_false, reduceIte, Nat.add_eq_left, Nat.left_eq_add, Nat.reduceEqDiff, List.set_cons_zero, List.set_cons_succ, hG] at hO); clear hG; have hF := hO; (try simp only [Own, Item.Holds, apartI, CellsAt, Nat.reduceAdd, Nat.zero_add, List.mem_cons, List.not_mem_nil, or_false, forall_eq_or_imp, forall_eq, ne_eq, false_imp_iff, implies_true, and_true] at hF)) | (go_at_call 23; apply own_at hO; (repeat (first | (with_reducible exact hO) | (with_reducible apply Own.alloc) | (with_reducible apply Own.drew) | ((with_reducible apply Own.set_at); (focus (show _ ≤ _; omega))))); have hG := hF; clear hF; clear hO; intro hO; refine own_call hO (fun hB => l8n_int _ _ t0 t1) ?_; clear hO; intro w1 hO; (try simp only [World.size_alloc1, World.size_drew, Nat.reduceAdd] at hO); (try simp only [upd, updI, List.map_cons, List.map_nil, eq_self, if_true, if_false, reduceIte, Nat.add_eq_left, Nat.left_eq_add, Nat.reduceEqDiff, List.set_cons_zero, List.set_cons_succ, hG] at hO); clear hG; have hF := hO; (try simp only [Own, Item.Holds, apartI, CellsAt, Nat.reduceAdd, Nat.zero_add, List.mem_cons, List.not_mem_nil, or_false, forall_eq_or_imp, forall_eq, ne_eq, false_imp_iff, implies_true, and_true] at hF)))
      go_ret
      exact ⟨by rw [← HE.out]; rfl, Own.base (by (repeat (first | (with_reducible exact hO) | (with_reducible apply Own.alloc) | (with_reducible apply Own.drew) | ((with_reducible apply Own.set_at); (focus (show _ ≤ _; omega))))))⟩

/- Chapter 8 in the model: the text of a voice. -/
open Go.RowKit

theorem nt_len {n : Nt} (h : nvB n = true) : (ntB n).size ≤ 9 := by
  rw [ntB_yes h]
  show (nxL n).toArray.size ≤ 9
  have := nxL_len h
  simpa using this
theorem vt_one {v : List Nt} {x : Nt} (h : nvB x = true) (hx : v[0]? = some x) : (⟨#[]⟩ : ByteArray) ++ ntB x = ⟨(vxL (v.take 1)).toArray⟩ := by
  rw [List.take_add_one, hx, List.take_zero, ntB_yes h]
  show (⟨([] : List UInt8).toArray⟩ : ByteArray) ++ _ = _
  rw [mkB_app]
  simp [vxL]
theorem vt_more {v : List Nt} {x : Nt} {j : Nat} (h : nvB x = true) (hx : v[j]? = some x) (hj : 0 < j) {T : ByteArray} (hT : T = ⟨(vxL (v.take j)).toArray⟩) : (T ++ (⟨#[32]⟩ : ByteArray)) ++ ntB x = ⟨(vxL (v.take (j + 1))).toArray⟩ := by
  have hv : j < v.length := (List.getElem?_eq_some_iff.1 hx).1
  rw [List.take_add_one, hx, ntB_yes h, hT]
  show ((⟨_⟩ : ByteArray) ++ ⟨[32].toArray⟩) ++ _ = _
  rw [mkB_app, mkB_app]
  simp only [Option.toList_some]
  rw [vxL_snoc, if_neg (by
    intro e
    have := congrArg List.length e
    rw [List.length_take, List.length_nil] at this
    omega)]
  simp

set_option maxHeartbeats 4000000 in
theorem vxS_any (va : Value) (v : List Nt) (w : World) (ha : SlAt w va v.length 6 (vcC v)) (hn : v.length ≤ 1048576) :
    Calls Try.prog 18 #[va] w fun e w' => e = .returned (.string (vxB v)) ∧ Below w.heap.size w w' := by
  have hO := Own.start w
  have hF := True.intro
  obtain ⟨A, c, rfl, nb, hA⟩ := ha.open
  have HA := hid ha
  clear ha
  obtain ⟨n, hnl⟩ : ∃ n, v.length = n := ⟨_, rfl⟩
  have HN := hid hnl
  rw [hnl] at hn nb hA HA
  cases hv : voB v
  · have HE := hid (vxB_no hv)
    have HV := hid (voS_is hnl HA.out hn hv)
    have hn0 : 0 < n := by
      apply Nat.pos_of_ne_zero
      intro e
      obtain rfl : v = [] := List.eq_nil_of_length_eq_zero (by omega)
      cases hv
    have hn1 : (0 : Int) < n := by omega
    rw [hnl]
    clear hnl hv
    go_enter Try.func18, Try.ntmps18
    go_wp2
    go_loopw [3, 4] (fun s t wr => s = .string ⟨#[]⟩ ∧ t = .int .i64 0 ∧ Own w.heap.size (Below w.heap.size w) wr []) (fun _ _ _ => 0)
    case atStart => exact ⟨rfl, rfl, hO⟩
    case round =>
      clear hO hF
      obtain ⟨rfl, rfl, hO⟩ := hrel
      have hF := True.intro
      go_wp2_with (go_at_call 29; apply own_at hO; (repeat (first | (with_reducible exact hO) | (with_reducible apply Own.alloc) | (with_reducible apply Own.drew) | ((with_reducible apply Own.set_at); (focus (show _ ≤ _; omega))))); have hG := hF; clear hF; clear hO; intro hO; refine own_call hO (fun hB => HV.out _ hB) ?_; clear hO; intro w1 hO; (try simp only [World.size_alloc1, World.size_drew, Nat.reduceAdd] at hO); (try simp only [upd, updI, List.map_cons, List.map_nil, eq_self, if_true, if_false, reduceIte, Nat.add_eq_left, Nat.left_eq_add, Nat.reduceEqDiff, List.set_cons_zero, List.set_cons_succ, hG] at hO); clear hG; have hF := hO; (try simp only [Own, Item.Holds, apartI, CellsAt, Nat.reduceAdd, Nat.zero_add, List.mem_cons, List.not_mem_nil, or_false, forall_eq_or_imp, forall_eq, ne_eq, false_imp_iff, implies_true, and_true] at hF))
      go_ret
      exact ⟨by rw [HE.out]; rfl, Own.base (by (repeat (first | (with_reducible exact hO) | (with_reducible apply Own.alloc) | (with_reducible apply Own.drew) | ((with_reducible apply Own.set_at); (focus (show _ ≤ _; omega))))))⟩
  · have HE := hid (vxB_yes hv)
    have HV := hid (voS_is hnl HA.out hn hv)
    have HVO := hid hv
    have HN6 := (voB_iff.1 hv).2
    rw [hnl] at HN6
    rw [hnl]
    clear hnl hv
    go_enter Try.func18, Try.ntmps18
    go_wp2
    go_loopw [3, 4] (fun s t wr => ∃ (j : Nat) (T : ByteArray), j ≤ n ∧ t = .int .i64 j ∧ s = .string T ∧ T.size ≤ 10 * j ∧ Hid (T = ⟨(vxL (v.take j)).toArray⟩) ∧ Own w.heap.size (Below w.heap.size w) wr []) (fun _ t _ => n - (intOf t).toNat)
    case atStart => exact ⟨0, ⟨#[]⟩, by omega, rfl, rfl, Nat.le_refl _, rfl, hO⟩
    case round =>
      clear hO hF
      obtain ⟨j, T, hj, rfl, rfl, hT, HT, hO⟩ := hrel
      have hF := True.intro
      obtain ⟨ts, hts⟩ : ∃ ts, T.size = ts := ⟨_, rfl⟩
      rw [hts] at hT
      by_cases he : j = n
      · subst he
        have HE2 := hid (show T = vxB v by rw [HE.out, HT.out, ← HN.out, List.take_length])
        go_wp2
        go_ret
        exact ⟨by rw [HE2.out]; rfl, hO.base⟩
      · have hlt : j < n := by omega
        have hlt2 : (j : Int) < n := by omega
        obtain ⟨b, off, rfl, hc1, hc2, hb⟩ := hA (by omega)
        obtain ⟨x, hx⟩ : ∃ x, v[j]? = some x := ⟨_, List.getElem?_eq_getElem (by have := HN.out; omega)⟩
        have hxv := vo_all HVO.out x (List.mem_of_getElem? hx)
        have hxl := nt_len hxv
        obtain ⟨xs, hxs⟩ : ∃ xs, (ntB x).size = xs := ⟨_, rfl⟩
        rw [hxs] at hxl
        have HX := hid hx
        have HXV := hid hxv
        clear he hx hxv
        by_cases h0 : j = 0
        · have h2 : (j : Int) ≤ 0 := by omega
          obtain rfl : T = ⟨#[]⟩ := by rw [HT.out, h0]; rfl
          have HX2 := hid (show (⟨#[]⟩ : ByteArray) ++ ntB x = ⟨(vxL (v.take (j + 1))).toArray⟩ by
            have hx := HX.out
            rw [h0] at hx ⊢
            exact vt_one HXV.out hx)
          have b1 : ((⟨#[]⟩ : ByteArray) ++ ntB x).size = xs := by rw [ByteArray.size_append, hxs]; show 0 + xs = xs; omega
          clear h0
          go_wp2_with (first | ((go_at_call 29; apply own_at hO; (repeat (first | (with_reducible exact hO) | (with_reducible apply Own.alloc) | (with_reducible apply Own.drew) | ((with_reducible apply Own.set_at); (focus (show _ ≤ _; omega))))); have hG := hF; clear hF; clear hO; intro hO; refine own_call hO (fun hB => HV.out _ hB) ?_; clear hO; intro w1 hO; (try simp only [World.size_alloc1, World.size_drew, Nat.reduceAdd] at hO); (try simp only [upd, updI, List.map_cons, List.map_nil, eq_self, if_true, if_false, reduceIte, Nat.add_eq_left, Nat.left_eq_add, Nat.reduceEqDiff, List.set_cons_zero, List.set_cons_succ, hG] at hO); clear hG; have hF := hO; (try simp only [Own, Item.Holds, apartI, CellsAt, Nat.reduceAdd, Nat.zero_add, List.mem_cons, List.not_mem_nil, or_false, forall_eq_or_imp, forall_eq, ne_eq, false_imp_iff, implies_true, and_true] at hF)); have ⟨d0, d1, d2, d3, d4, d5⟩ := noteAt (HA.out.below hO.base) HX.out) | (go_at_call 14; apply own_at hO; (repeat (first | (with_reducible exact hO) | (with_reducible apply Own.alloc) | (with_reducible apply Own.drew) | ((with_reducible apply Own.set_at); (focus (show _ ≤ _; omega))))); have hG := hF; clear hF; clear hO; intro hO; refine own_call hO (fun hB => ntS_any _ _) ?_; clear hO; intro w1 hO; (try simp only [World.size_alloc1, World.size_drew, Nat.reduceAdd] at hO); (try simp only [upd, updI, List.map_cons, List.map_nil, eq_self, if_true, if_false, reduceIte, Nat.add_eq_left, Nat.left_eq_add, Nat.reduceEqDiff, List.set_cons_zero, List.set_cons_succ, hG] at hO); clear hG; have hF := hO; (try simp only [Own, Item.Holds, apartI, CellsAt, Nat.reduceAdd, Nat.zero_add, List.mem_cons, List.not_mem_nil, or_false, forall_eq_or_imp, forall_eq, ne_eq, false_imp_iff, implies_true, and_true] at hF)))
          go_roundw
          case rel => exact ⟨j + 1, _, by omega, by go_num, rfl, by omega, HX2.out, hO⟩
          case measure => simp [intOf]; omega
        · have h1 : 0 < j := by omega
          have h2 : (0 : Int) < j := by omega
          have HX2 := hid (vt_more HXV.out HX.out h1 HT.out)
          have b1 : (T ++ (⟨#[32]⟩ : ByteArray)).size = ts + 1 := by rw [ByteArray.size_append, hts]; rfl
          have b2 : ((T ++ (⟨#[32]⟩ : ByteArray)) ++ ntB x).size = ts + 1 + xs := by rw [ByteArray.size_append, hxs, b1]
          clear h0
          go_wp2_with (first | ((go_at_call 29; apply own_at hO; (repeat (first | (with_reducible exact hO) | (with_reducible apply Own.alloc) | (with_reducible apply Own.drew) | ((with_reducible apply Own.set_at); (focus (show _ ≤ _; omega))))); have hG := hF; clear hF; clear hO; intro hO; refine own_call hO (fun hB => HV.out _ hB) ?_; clear hO; intro w1 hO; (try simp only [World.size_alloc1, World.size_drew, Nat.reduceAdd] at hO); (try simp only [upd, updI, List.map_cons, List.map_nil, eq_self, if_true, if_false, reduceIte, Nat.add_eq_left, Nat.left_eq_add, Nat.reduceEqDiff, List.set_cons_zero, List.set_cons_succ, hG] at hO); clear hG; have hF := hO; (try simp only [Own, Item.Holds, apartI, CellsAt, Nat.reduceAdd, Nat.zero_add, List.mem_cons, List.not_mem_nil, or_false, forall_eq_or_imp, forall_eq, ne_eq, false_imp_iff, implies_true, and_true] at hF)); have ⟨d0, d1, d2, d3, d4, d5⟩ := noteAt (HA.out.below hO.base) HX.out) | (go_at_call 14; apply own_at hO; (repeat (first | (with_reducible exact hO) | (with_reducible apply Own.alloc) | (with_reducible apply Own.drew) | ((with_reducible apply Own.set_at); (focus (show _ ≤ _; omega))))); have hG := hF; clear hF; clear hO; intro hO; refine own_call hO (fun hB => ntS_any _ _) ?_; clear hO; intro w1 hO; (try simp only [World.size_alloc1, World.size_drew, Nat.reduceAdd] at hO); (try simp only [upd, updI, List.map_cons, List.map_nil, eq_self, if_true, if_false, reduceIte, Nat.add_eq_left, Nat.left_eq_add, Nat.reduceEqDiff, List.set_cons_zero, List.set_cons_succ, hG] at hO); clear hG; have hF := hO; (try simp only [Own, Item.Holds, apartI, CellsAt, Nat.reduceAdd, Nat.zero_add, List.mem_cons, List.not_mem_nil, or_false, forall_eq_or_imp, forall_eq, ne_eq, false_imp_iff, implies_true, and_true] at hF)))
          go_roundw
          case rel => exact ⟨j + 1, _, by omega, by go_num, rfl, by omega, HX2.out, hO⟩
          case measure => simp [intOf]; omega

/- Chapter 8 in the model: ReadNote. -/
open Go.RowKit

theorem index_at {s : ByteArray} {k : Nat} {c : UInt8} (h : s.data.toList[k]? = some c) (W : World) : (Instr.index 9 (.string s) (.int .i64 k)).run Try.prog W = .ok (.int .u8 (c.toNat : Int)) W := by
  have hk := (List.getElem?_eq_some_iff.1 h).1
  have h2 : s.data.toList.length = s.size := Array.length_toList
  rw [index_byte s k (by omega) (by omega) W, Int.toNat_natCast, byZ_at h]
theorem slice_hd {s B : ByteArray} {p : Nat} (h : (hdT s.data.toList).length = p) (hB : (⟨(hdT s.data.toList).toArray⟩ : ByteArray) = B) (W : World) : (Instr.slice 9 (.string s) none (some (.int .i64 p)) none).run Try.prog W = .ok (.string B) W := by
  have h2 : s.data.toList.length = s.size := Array.length_toList
  have := hd_len s.data.toList
  subst h hB
  rw [run_slice_string_h W 9 s Try.underlying9 .i64 _ (by omega) (by omega), Int.toNat_natCast, ext_hd]
theorem s_mk {s : ByteArray} {l : List UInt8} (h : s.data.toList = l) : s = ⟨l.toArray⟩ := by
  apply ByteArray.ext
  apply Array.toList_inj.1
  rw [h]
theorem toL_r : (⟨#[114]⟩ : ByteArray).toList = [114] := by rw [ByteArray.toList_eq]
theorem toL_0 : (⟨#[]⟩ : ByteArray).toList = [] := by rw [ByteArray.toList_eq]
theorem ntS_is {n : Nt} {r : Bool} {s a o t : Int} {y : Bool} (h : n = ⟨r, s, a, o, t, y⟩) (w : World) :
    Calls Try.prog 14 #[.agg #[.bool r, .int .i64 s, .int .i64 a, .int .i64 o, .int .i64 t, .bool y]] w fun e w' => e = .returned (.string (ntB n)) ∧ Below w.heap.size w w' := by
  subst h
  exact ntS_any _ w
theorem rpS_ok {B : ByteArray} (hs : B.size ≤ maxLen) (h : rdOk B = true) (w : World) :
    Calls Try.prog 13 #[.string B] w fun e w' => e = .returned (.tuple #[.agg #[.int .i64 (stI (byZ B 0)), .int .i64 (alZ (midB B)), .int .i64 (byZ B (B.size - 1) - 48)], .bool true]) ∧ Below w.heap.size w w' :=
  (readS_any B w hs).mono fun e w' ⟨he, hb⟩ => ⟨by rw [he, if_pos h], hb⟩
theorem rpS_no {B : ByteArray} (hs : B.size ≤ maxLen) (h : rdOk B = false) (w : World) :
    Calls Try.prog 13 #[.string B] w fun e w' => e = .returned (.tuple #[.agg #[.int .i64 0, .int .i64 0, .int .i64 0], .bool false]) ∧ Below w.heap.size w w' :=
  (readS_any B w hs).mono fun e w' ⟨he, hb⟩ => ⟨by rw [he, h]; rfl, hb⟩

set_option maxRecDepth 8000 in
set_option maxHeartbeats 4000000 in
theorem rnS_any (s : ByteArray) (w : World) (hs : s.size ≤ 4611686018427387904) :
    Calls Try.prog 5 #[.string s] w fun e w' => e = .returned (.tuple #[.agg #[.bool (rnN s).r, .int .i64 (rnN s).s, .int .i64 (rnN s).a, .int .i64 (rnN s).o, .int .i64 (rnN s).t, .bool (rnN s).y], .bool (rnB s)]) ∧ Below w.heap.size w w' := by
  have hO := Own.start w
  have hF := True.intro
  have hlz : s.data.toList.length = s.size := Array.length_toList
  obtain ⟨l, hl⟩ : ∃ l, s.data.toList = l := ⟨_, rfl⟩
  obtain ⟨ls, hls⟩ : ∃ ls, s.size = ls := ⟨_, rfl⟩
  rw [hls, hl] at hlz
  obtain ⟨p, hp⟩ : ∃ p, (hdT l).length = p := ⟨_, rfl⟩
  obtain ⟨B, hB⟩ : ∃ B, (⟨(hdT l).toArray⟩ : ByteArray) = B := ⟨_, rfl⟩
  have hpl : p ≤ ls := by rw [← hp, ← hlz]; exact hd_len l
  have hBs : B.size ≤ maxLen := by
    rw [← hB]
    show (hdT l).toArray.size ≤ maxLen
    rw [List.size_toArray, hp]; unfold maxLen; omega
  have hms : ls ≤ 4611686018427387904 := by omega
  have hsl := fun W => slice_hd (s := s) (p := p) (B := B) (by rw [hl]; exact hp) (by rw [hl]; exact hB) W
  obtain ⟨⟨r0, s0, a0, o0, t0, y0⟩, hh⟩ : ∃ H, scH l = H := ⟨_, rfl⟩
  have HR := hid (scN_of hh)
  have HL := hid hl
  have HP := hid hp
  have HB := hid hB
  have HH := hid hh
  have HS := hid hs
  have HZ := hid hlz
  have HBS := hid hBs
  clear hl hp hB hh hs hlz hBs
  have hK : hdT l = [114] ∨ (hdT l ≠ [114] ∧ rdOk B = true) ∨ (hdT l ≠ [114] ∧ rdOk B = false) := by
    by_cases h : hdT l = [114]
    · exact Or.inl h
    · cases hr : rdOk B
      · exact Or.inr (Or.inr ⟨h, rfl⟩)
      · exact Or.inr (Or.inl ⟨h, rfl⟩)
  have HK := hid hK
  clear hK
  go_enter Try.func5, Try.ntmps5
  go_wp2_with fail
  (apply own_code hO; (repeat (first | (with_reducible exact hO) | (with_reducible apply Own.alloc) | (with_reducible apply Own.drew) | ((with_reducible apply Own.set_at); (focus (show _ ≤ _; omega))))); have hG := hF; clear hF; clear hO; intro hO; (try simp only [World.size_alloc1, World.size_drew, Nat.reduceAdd] at hO); (try simp only [upd, updI, List.map_cons, List.map_nil, eq_self, if_true, if_false, reduceIte, Nat.add_eq_left, Nat.left_eq_add, Nat.reduceEqDiff, List.set_cons_zero, List.set_cons_succ, hG] at hO); clear hG; have hF := hO; (try simp only [Own, Item.Holds, apartI, CellsAt, Nat.reduceAdd, Nat.zero_add, List.mem_cons, List.not_mem_nil, or_false, forall_eq_or_imp, forall_eq, ne_eq, false_imp_iff, implies_true, and_true] at hF))
  go_loopw [5] (fun t wr => ∃ k : Nat, k ≤ p ∧ t = .int .i64 k ∧ Own w.heap.size (Below w.heap.size w) wr [.blk (w.heap.size + 1) [.bool false, .int .i64 0, .int .i64 0, .int .i64 0, .int .i64 0, .bool false], .blk w.heap.size [.bool false, .int .i64 0, .int .i64 0, .int .i64 0, .int .i64 0, .bool false]]) (fun t _ => p - (intOf t).toNat)
  case atStart => exact ⟨0, by omega, rfl, hO⟩
  case round =>
    clear hO hF
    obtain ⟨k, hk, rfl, hO⟩ := hrel
    have hF := True.intro
    by_cases hkp : k < p
    · obtain ⟨c, hc, hc47⟩ := hd_lt (l := l) (k := k) (by rw [HP.out]; exact hkp)
      have hi := fun W => index_at (s := s) (by rw [HL.out]; exact hc) W
      have hkl : k < ls := by omega
      have hkl2 : (k : Int) < ls := by omega
      have hcn := u8_ne (k := 47) (by omega) hc47
      obtain ⟨z, hz⟩ : ∃ z : Int, (c.toNat : Int) = z := ⟨_, rfl⟩
      rw [hz] at hcn
      simp only [hz] at hi
      have hcb : (z == 47) = false := beq_eq_false_iff_ne.2 hcn
      clear hc hc47 hz
      go_wp2_with fail
      go_roundw
      case rel => exact ⟨k + 1, by omega, by go_num, hO⟩
      case measure => simp [intOf]; omega
    · obtain rfl : k = p := by omega
      have hF := hO; (try simp only [Own, Item.Holds, apartI, CellsAt, Nat.reduceAdd, Nat.zero_add, List.mem_cons, List.not_mem_nil, or_false, forall_eq_or_imp, forall_eq, ne_eq, false_imp_iff, implies_true, and_true] at hF)
      have hi : ∀ W, k < ls → (Instr.index 9 (.string s) (.int .i64 k)).run Try.prog W = .ok (.int .u8 47) W := fun W h => index_at (c := 47) (by rw [HL.out]; have := hd_end (l := l) (by rw [HP.out, HZ.out]; exact h); rwa [HP.out] at this) W
      have HI := hid hi
      clear hi
      have hps : k < ls ∨ k = ls := by omega
      obtain ⟨m, hm⟩ : ∃ m, (tlT l).length = m := ⟨_, rfl⟩
      have hm2 : m = min 5 (ls - (k + 1)) := by rw [← hm, tl_len, HZ.out, HP.out]
      have HM := hid hm
      clear hm
      rcases hps with hps | hps
      all_goals rcases HK.out with h1 | h2 | h3
      all_goals first | (have hi := fun W => HI.out W hps; have hps2 : (k : Int) < ls := (by omega)) | (have hps2 : ¬ ((k : Int) < ls) := (by omega); clear hps)
      all_goals first | (have hbt := str_eq (show B = ⟨#[114]⟩ by rw [← HB.out, h1]); rw [toL_r] at hbt) | (have hbt := str_ne (show B ≠ ⟨#[114]⟩ by rw [← HB.out]; intro e; exact h2.1 (mk_inj (b := [114]) e)); rw [toL_r] at hbt) | (have hbt := str_ne (show B ≠ ⟨#[114]⟩ by rw [← HB.out]; intro e; exact h3.1 (mk_inj (b := [114]) e)); rw [toL_r] at hbt)
      all_goals first | (have E := HH.out; rw [scH_one h1] at E; injection E with e1 e2 e3 e4 e5 e6; clear HK h1; subst e1 e2 e3 e4 e5 e6) | (have E := HH.out; rw [scH_ok HB.out h2.1 h2.2] at E; injection E with e1 e2 e3 e4 e5 e6; have hC := fun W => rpS_ok HBS.out h2.2 W; rw [e2, e3, e4] at hC; have HC := hid hC; clear hC HK h2 e2 e3 e4; subst e1 e5 e6) | (have HC := hid (fun W => rpS_no HBS.out h3.2 W); have E := HH.out; rw [scH_no HB.out h3.1 h3.2] at E; injection E with e1 e2 e3 e4 e5 e6; clear HK h3; subst e1 e2 e3 e4 e5 e6)
      all_goals
        go_wp2_with (go_at_call 13; apply own_at hO; (repeat (first | (with_reducible exact hO) | (with_reducible apply Own.alloc) | (with_reducible apply Own.drew) | ((with_reducible apply Own.set_at); (focus (show _ ≤ _; omega))))); have hG := hF; clear hF; clear hO; intro hO; refine own_call hO (fun hB => HC.out _) ?_; clear hO; intro w1 hO; (try simp only [World.size_alloc1, World.size_drew, Nat.reduceAdd] at hO); (try simp only [upd, updI, List.map_cons, List.map_nil, eq_self, if_true, if_false, reduceIte, Nat.add_eq_left, Nat.left_eq_add, Nat.reduceEqDiff, List.set_cons_zero, List.set_cons_succ, hG] at hO); clear hG; have hF := hO; (try simp only [Own, Item.Holds, apartI, CellsAt, Nat.reduceAdd, Nat.zero_add, List.mem_cons, List.not_mem_nil, or_false, forall_eq_or_imp, forall_eq, ne_eq, false_imp_iff, implies_true, and_true] at hF))
        (apply own_code hO; (repeat (first | (with_reducible exact hO) | (with_reducible apply Own.alloc) | (with_reducible apply Own.drew) | ((with_reducible apply Own.set_at); (focus (show _ ≤ _; omega))))); have hG := hF; clear hF; clear hO; intro hO; (try simp only [World.size_alloc1, World.size_drew, Nat.reduceAdd] at hO); (try simp only [upd, updI, List.map_cons, List.map_nil, eq_self, if_true, if_false, reduceIte, Nat.add_eq_left, Nat.left_eq_add, Nat.reduceEqDiff, List.set_cons_zero, List.set_cons_succ, hG] at hO); clear hG; have hF := hO; (try simp only [Own, Item.Holds, apartI, CellsAt, Nat.reduceAdd, Nat.zero_add, List.mem_cons, List.not_mem_nil, or_false, forall_eq_or_imp, forall_eq, ne_eq, false_imp_iff, implies_true, and_true] at hF))
        go_loopw [6] (fun t wr => ∃ i : Nat, i ≤ m ∧ t = .int .i64 ((k : Int) + 1 + i) ∧ Own w.heap.size (Below w.heap.size w) wr [.blk (w.heap.size + 1) [.bool (scH l).r, .int .i64 (scH l).s, .int .i64 (scH l).a, .int .i64 (scH l).o, .int .i64 (tkF ((tlT l).take i)), .bool (tiF ((tlT l).take i))], .blk w.heap.size [.bool false, .int .i64 0, .int .i64 0, .int .i64 0, .int .i64 0, .bool false]]) (fun t _ => k + 6 - (intOf t).toNat)
        case atStart => exact ⟨0, by omega, by go_num, by rw [HH.out]; exact hO⟩
        case round =>
          clear hO hF
          obtain ⟨i, hi6, rfl, hO⟩ := hrel
          by_cases him : i < m
          · try (exfalso; omega)
            all_goals
              obtain ⟨c, hc⟩ : ∃ c, (tlT l)[i]? = some c := ⟨_, List.getElem?_eq_getElem (by rw [HM.out]; exact him)⟩
              have hi5 : i < 5 := by omega
              have hl3 : (k : Int) + 1 + i < ls := by omega
              have hl4 : (k : Int) + 1 + i < (k : Int) + 6 := by omega
              have hix := fun W => index_at (s := s) (k := k + 1 + i) (c := c) (by rw [HL.out, ← hc, tl_at hi5, HP.out]) W
              simp only [show ((k + 1 + i : Nat) : Int) = (k : Int) + 1 + i by omega] at hix
              obtain ⟨tk, htk⟩ : ∃ tk, tkF ((tlT l).take i) = tk := ⟨_, rfl⟩
              obtain ⟨ti, hti⟩ : ∃ ti, tiF ((tlT l).take i) = ti := ⟨_, rfl⟩
              have hb := tk_small (tlT l) (i := i) (by omega)
              have hst := tl_step hc htk hti
              rw [htk] at hb
              rw [htk, hti] at hO
              simp only [HH.out] at hO
              have hF := hO; (try simp only [Own, Item.Holds, apartI, CellsAt, Nat.reduceAdd, Nat.zero_add, List.mem_cons, List.not_mem_nil, or_false, forall_eq_or_imp, forall_eq, ne_eq, false_imp_iff, implies_true, and_true] at hF)
              obtain ⟨hb1, hb2⟩ := hb
              obtain ⟨z, hz⟩ : ∃ z : Int, (c.toNat : Int) = z := ⟨_, rfl⟩
              rw [hz] at hst
              simp only [hz] at hix
              clear hc hz htk hti
              rcases hst with ⟨z1, z2, t1, t2⟩ | ⟨z1, t1, t2⟩ | ⟨z1, z2, t1, t2⟩ | ⟨z1, z2, t1, t2⟩
              all_goals
                have HT := hid (And.intro t1 t2)
                clear t1 t2
                first | (have m1 : IntKind.i64.wrap (10 * tk) = 10 * tk := IntWalk.i64_in _ (by omega); have m2 : IntKind.u8.wrap (z - 48) = z - 48 := IntWalk.u8_in _ (by omega); have m3 : IntKind.i64.wrap (z - 48) = z - 48 := IntWalk.i64_in _ (by omega); have m4 : IntKind.i64.wrap (10 * tk + (z - 48)) = 10 * tk + (z - 48) := IntWalk.i64_in _ (by omega)) | skip
                first | (have zc : (z == 126) = true := beq_iff_eq.2 z2) | (have zc : (z == 126) = false := beq_eq_false_iff_ne.2 (by omega))
                cases ti
                all_goals
                  go_wp2_with fail
                  first | (apply own_code hO
                           (repeat (first | (with_reducible exact hO) | (with_reducible apply Own.alloc) | (with_reducible apply Own.drew) | ((with_reducible apply Own.set_at); (focus (show _ ≤ _; omega)))))
                           have hG := hF; clear hF; clear hO; intro hO
                           (try simp only [World.size_alloc1, World.size_drew, Nat.reduceAdd] at hO); (try simp only [upd, updI, List.map_cons, List.map_nil, eq_self, if_true, if_false, reduceIte, Nat.add_eq_left, Nat.left_eq_add, Nat.reduceEqDiff, List.set_cons_zero, List.set_cons_succ, hG] at hO); clear hG
                           refine region_own (X := fun _ => True) [10] (by kernel_rfl) (hO) (trivial) (by first | exact XStab.true | exact XStab.rd | exact XStab.rdIf) ?_
                           clear hO
                           refine Sim.takeP (i := 0) (d := some 60) (v := ?_) rfl rfl (by kernel_rfl) (by kernel_rfl) (by kernel_rfl) (fun _ _ _ h => h) (by first | exact XStab.true | exact XStab.rd | exact XStab.rdIf) ?_ ?_
                           rotate_left
                           · first | refine Or.inl ⟨by rfl, fun w => ?_⟩ | (refine Or.inr ⟨by rfl, ?_⟩; with_reducible rfl)
                             first | done | (go_simp; all_goals with_reducible rfl)
                           try simp only [Act.put, List.setIfInBounds_toArray, List.set_cons_zero, List.set_cons_succ]
                           refine Sim.take (i := 1) (d := some 61) (v := ?_) rfl rfl (by kernel_rfl) (by kernel_rfl) (by kernel_rfl) (by kernel_rfl) (fun _ _ _ h => h) (by first | exact XStab.true | exact XStab.rd | exact XStab.rdIf) ?_ ?_
                           rotate_left
                           · first | refine Or.inl ⟨by rfl, fun w hO => ?_⟩ | (refine Or.inr ⟨by rfl, ?_⟩; with_reducible rfl)
                             first | done | (have hF := hO; (try simp only [Own, Item.Holds, apartI, CellsAt, Nat.reduceAdd, Nat.zero_add, List.mem_cons, List.not_mem_nil, or_false, forall_eq_or_imp, forall_eq, ne_eq, false_imp_iff, implies_true, and_true] at hF); refine Out.same ?_; go_simp; all_goals with_reducible rfl)
                           try simp only [Act.put, List.setIfInBounds_toArray, List.set_cons_zero, List.set_cons_succ]
                           refine Sim.takeP (i := 2) (d := some 62) (v := ?_) rfl rfl (by kernel_rfl) (by kernel_rfl) (by kernel_rfl) (fun _ _ _ h => h) (by first | exact XStab.true | exact XStab.rd | exact XStab.rdIf) ?_ ?_
                           rotate_left
                           · first | refine Or.inl ⟨by rfl, fun w => ?_⟩ | (refine Or.inr ⟨by rfl, ?_⟩; with_reducible rfl)
                             first | done | (go_simp; all_goals with_reducible rfl)
                           try simp only [Act.put, List.setIfInBounds_toArray, List.set_cons_zero, List.set_cons_succ]
                           refine Sim.takeP (i := 3) (d := some 63) (v := ?_) rfl rfl (by kernel_rfl) (by kernel_rfl) (by kernel_rfl) (fun _ _ _ h => h) (by first | exact XStab.true | exact XStab.rd | exact XStab.rdIf) ?_ ?_
                           rotate_left
                           · first | refine Or.inl ⟨by rfl, fun w => ?_⟩ | (refine Or.inr ⟨by rfl, ?_⟩; with_reducible rfl)
                             first | done | (go_simp; all_goals with_reducible rfl)
                           try simp only [Act.put, List.setIfInBounds_toArray, List.set_cons_zero, List.set_cons_succ]
                           refine Sim.takeP (i := 4) (d := some 64) (v := ?_) rfl rfl (by kernel_rfl) (by kernel_rfl) (by kernel_rfl) (fun _ _ _ h => h) (by first | exact XStab.true | exact XStab.rd | exact XStab.rdIf) ?_ ?_
                           rotate_left
                           · first | refine Or.inl ⟨by rfl, fun w => ?_⟩ | (refine Or.inr ⟨by rfl, ?_⟩; with_reducible rfl)
                             first | done | (go_simp; all_goals with_reducible rfl)
                           try simp only [Act.put, List.setIfInBounds_toArray, List.set_cons_zero, List.set_cons_succ]
                           refine Sim.take (i := 5) (d := some 65) (v := ?_) rfl rfl (by kernel_rfl) (by kernel_rfl) (by kernel_rfl) (by kernel_rfl) (fun _ _ _ h => h) (by first | exact XStab.true | exact XStab.rd | exact XStab.rdIf) ?_ ?_
                           rotate_left
                           · first | refine Or.inl ⟨by rfl, fun w hO => ?_⟩ | (refine Or.inr ⟨by rfl, ?_⟩; with_reducible rfl)
                             first | done | (have hF := hO; (try simp only [Own, Item.Holds, apartI, CellsAt, Nat.reduceAdd, Nat.zero_add, List.mem_cons, List.not_mem_nil, or_false, forall_eq_or_imp, forall_eq, ne_eq, false_imp_iff, implies_true, and_true] at hF); refine Out.same ?_; go_simp; all_goals with_reducible rfl)
                           try simp only [Act.put, List.setIfInBounds_toArray, List.set_cons_zero, List.set_cons_succ]
                           refine Sim.takeP (i := 6) (d := some 66) (v := ?_) rfl rfl (by kernel_rfl) (by kernel_rfl) (by kernel_rfl) (fun _ _ _ h => h) (by first | exact XStab.true | exact XStab.rd | exact XStab.rdIf) ?_ ?_
                           rotate_left
                           · first | refine Or.inl ⟨by rfl, fun w => ?_⟩ | (refine Or.inr ⟨by rfl, ?_⟩; with_reducible rfl)
                             first | done | (go_simp; all_goals with_reducible rfl)
                           try simp only [Act.put, List.setIfInBounds_toArray, List.set_cons_zero, List.set_cons_succ]
                           refine Sim.takeP (i := 7) (d := some 67) (v := ?_) rfl rfl (by kernel_rfl) (by kernel_rfl) (by kernel_rfl) (fun _ _ _ h => h) (by first | exact XStab.true | exact XStab.rd | exact XStab.rdIf) ?_ ?_
                           rotate_left
                           · first | refine Or.inl ⟨by rfl, fun w => ?_⟩ | (refine Or.inr ⟨by rfl, ?_⟩; with_reducible rfl)
                             first | done | (go_simp; all_goals with_reducible rfl)
                           try simp only [Act.put, List.setIfInBounds_toArray, List.set_cons_zero, List.set_cons_succ]
                           refine Sim.takeP (i := 8) (d := some 68) (v := ?_) rfl rfl (by kernel_rfl) (by kernel_rfl) (by kernel_rfl) (fun _ _ _ h => h) (by first | exact XStab.true | exact XStab.rd | exact XStab.rdIf) ?_ ?_
                           rotate_left
                           · first | refine Or.inl ⟨by rfl, fun w => ?_⟩ | (refine Or.inr ⟨by rfl, ?_⟩; with_reducible rfl)
                             first | done | (go_simp; all_goals with_reducible rfl)
                           try simp only [Act.put, List.setIfInBounds_toArray, List.set_cons_zero, List.set_cons_succ]
                           refine Sim.takeP (i := 9) (d := some 69) (v := ?_) rfl rfl (by kernel_rfl) (by kernel_rfl) (by kernel_rfl) (fun _ _ _ h => h) (by first | exact XStab.true | exact XStab.rd | exact XStab.rdIf) ?_ ?_
                           rotate_left
                           · first | refine Or.inl ⟨by rfl, fun w => ?_⟩ | (refine Or.inr ⟨by rfl, ?_⟩; with_reducible rfl)
                             first | done | (go_simp; all_goals with_reducible rfl)
                           try simp only [Act.put, List.setIfInBounds_toArray, List.set_cons_zero, List.set_cons_succ]
                           refine Sim.one' (i := 10) (oi := { dst := none, op := Op.store 3 (Operand.tmp 69) (Operand.tmp 68), type := 0, pos := "l8_texts.go:44", after := #[{ on := 9, ground := Ground.data }, { on := 8, ground := Ground.data }, { on := 0, ground := Ground.phase }, { on := 1, ground := Ground.phase }, { on := 2, ground := Ground.phase }, { on := 3, ground := Ground.phase }, { on := 4, ground := Ground.phase }, { on := 5, ground := Ground.phase }, { on := 6, ground := Ground.phase }, { on := 7, ground := Ground.phase }, { on := 8, ground := Ground.phase }], guard := none }) (by kernel_rfl) rfl (by rfl) (fun w0 hO hX K hK => ?_)
                           have hF := hO; (try simp only [Own, Item.Holds, apartI, CellsAt, Nat.reduceAdd, Nat.zero_add, List.mem_cons, List.not_mem_nil, or_false, forall_eq_or_imp, forall_eq, ne_eq, false_imp_iff, implies_true, and_true] at hF)
                           go_simp
                           apply hK _ _ _ (fun _ => True)
                           (repeat (first | (with_reducible exact hO) | (with_reducible apply Own.alloc) | (with_reducible apply Own.drew) | ((with_reducible apply Own.set_at); (focus (show _ ≤ _; omega)))))
                           · first | exact trivial | exact hX | exact hX.below (below1 _) | exact RdIf.gone | exact hX.keep ((Below.refl _ _).setCell (by first | omega | (dsimp only; omega)) _)
                           · exact (by first | exact XStab.true | exact XStab.rd | exact XStab.rdIf)
                           · first | exact fun _ _ h => h.2 | exact fun _ _ h => h | exact fun h => absurd h (by decide)
                           try simp only [upd, updI, List.map_cons, List.map_nil, eq_self, if_true, if_false, reduceIte, Nat.add_eq_left, Nat.left_eq_add, Nat.reduceEqDiff, List.set_cons_zero, List.set_cons_succ, hF]
                           clear hK K hF hO
                           try simp only [Act.put, List.setIfInBounds_toArray, List.set_cons_zero, List.set_cons_succ]
                           refine Sim.done (by kernel_rfl) (fun w1 hO hX => ?_) _
                           (try simp only [World.size_alloc1, World.size_drew, Nat.reduceAdd] at hO); (try simp only [upd, updI, List.map_cons, List.map_nil, eq_self, if_true, if_false, reduceIte, Nat.add_eq_left, Nat.left_eq_add, Nat.reduceEqDiff, List.set_cons_zero, List.set_cons_succ] at hO)
                           have hF := hO; (try simp only [Own, Item.Holds, apartI, CellsAt, Nat.reduceAdd, Nat.zero_add, List.mem_cons, List.not_mem_nil, or_false, forall_eq_or_imp, forall_eq, ne_eq, false_imp_iff, implies_true, and_true] at hF); go_wp2_with fail) | skip
                  go_roundw
                  case rel => exact ⟨i + 1, by omega, by go_num, by rw [HT.out.1, HT.out.2, HH.out]; (apply Own.cast; (focus ((repeat (first | (with_reducible exact hO) | (with_reducible apply Own.alloc) | (with_reducible apply Own.drew) | ((with_reducible apply Own.set_at); (focus (show _ ≤ _; omega))))))); (first | rfl | (simp only [upd, updI, List.map_cons, List.map_nil, eq_self, if_true, if_false, reduceIte, Nat.add_eq_left, Nat.left_eq_add, Nat.reduceEqDiff, List.set_cons_zero, List.set_cons_succ, hF]; done) | (simp [upd, updI, List.map_cons, List.map_nil, eq_self, if_true, if_false, reduceIte, Nat.add_eq_left, Nat.left_eq_add, Nat.reduceEqDiff, List.set_cons_zero, List.set_cons_succ, hF]; done)))⟩
                  case measure => simp [intOf]; omega
          · obtain rfl : i = m := by omega
            have hq : ls ≤ k + 1 + i ∨ (k + 1 + i < ls ∧ i = 5) := by omega
            rw [take_all (by rw [HM.out]; exact Nat.le_refl _)] at hO
            simp only [HH.out] at hO
            obtain ⟨tk, htk⟩ : ∃ tk, tkF (tlT l) = tk := ⟨_, rfl⟩
            obtain ⟨ti, hti⟩ : ∃ ti, tiF (tlT l) = ti := ⟨_, rfl⟩
            simp only [htk, hti] at hO
            have HR2 := HR.out
            simp only [htk, hti] at HR2
            have HN := hid (fun W => ntS_is HR2 W)
            have HR3 := hid HR2
            clear HR2
            clear htk hti
            have hF := hO; (try simp only [Own, Item.Holds, apartI, CellsAt, Nat.reduceAdd, Nat.zero_add, List.mem_cons, List.not_mem_nil, or_false, forall_eq_or_imp, forall_eq, ne_eq, false_imp_iff, implies_true, and_true] at hF)
            rcases hq with q1 | ⟨q1, q2⟩
            all_goals try (exfalso; omega)
            all_goals
              first | (have q3 : (k : Int) + 1 + i < ls := (by omega); have q4 : ¬ ((k : Int) + 1 + i < (k : Int) + 6) := (by omega)) | (have q3 : ¬ ((k : Int) + 1 + i < ls) := (by omega))
              rcases rn_end HL.out with ⟨g1, g2, g3⟩ | ⟨g1, g2, g3, g4⟩ | ⟨g1, g2, g3, g4⟩
              · have hse := str_eq (show s = ⟨#[]⟩ by rw [s_mk HL.out, g1]); rw [toL_0] at hse
                have HG := hid (And.intro g2 g3)
                clear g1 g2 g3
                go_wp2_with fail
                apply own_end hO
                (repeat (first | (with_reducible exact hO) | (with_reducible apply Own.alloc) | (with_reducible apply Own.drew) | ((with_reducible apply Own.set_at); (focus (show _ ≤ _; omega)))))
                have hG := hF; clear hF; clear hO; intro hO
                refine own_ret (v := .tuple #[.agg #[.bool false, .int .i64 0, .int .i64 0, .int .i64 0, .int .i64 0, .bool false], .bool false]) hO ?_ rfl (fun hO => ⟨by rw [HG.out.1, HG.out.2], hO.base⟩)
                clear hO; intro w1 hO
                (try simp only [World.size_alloc1, World.size_drew, Nat.reduceAdd] at hO); (try simp only [upd, updI, List.map_cons, List.map_nil, eq_self, if_true, if_false, reduceIte, Nat.add_eq_left, Nat.left_eq_add, Nat.reduceEqDiff, List.set_cons_zero, List.set_cons_succ, hG] at hO); clear hG
                have hF := hO; (try simp only [Own, Item.Holds, apartI, CellsAt, Nat.reduceAdd, Nat.zero_add, List.mem_cons, List.not_mem_nil, or_false, forall_eq_or_imp, forall_eq, ne_eq, false_imp_iff, implies_true, and_true] at hF)
                simp [results, Try.results5, go_sem, hF]
              · have hse := str_ne (show s ≠ ⟨#[]⟩ from fun e => g1 (by rw [← HL.out, e])); rw [toL_0] at hse
                have hsn := str_eq g2
                have HG := hid (And.intro g3 (g4.trans HR3.out))
                clear g1 g2 g3 g4
                go_wp2_with (go_at_call 14; apply own_at hO; (repeat (first | (with_reducible exact hO) | (with_reducible apply Own.alloc) | (with_reducible apply Own.drew) | ((with_reducible apply Own.set_at); (focus (show _ ≤ _; omega))))); have hG := hF; clear hF; clear hO; intro hO; refine own_call hO (fun hB => HN.out _) ?_; clear hO; intro w1 hO; (try simp only [World.size_alloc1, World.size_drew, Nat.reduceAdd] at hO); (try simp only [upd, updI, List.map_cons, List.map_nil, eq_self, if_true, if_false, reduceIte, Nat.add_eq_left, Nat.left_eq_add, Nat.reduceEqDiff, List.set_cons_zero, List.set_cons_succ, hG] at hO); clear hG; have hF := hO; (try simp only [Own, Item.Holds, apartI, CellsAt, Nat.reduceAdd, Nat.zero_add, List.mem_cons, List.not_mem_nil, or_false, forall_eq_or_imp, forall_eq, ne_eq, false_imp_iff, implies_true, and_true] at hF))
                apply own_end hO
                (repeat (first | (with_reducible exact hO) | (with_reducible apply Own.alloc) | (with_reducible apply Own.drew) | ((with_reducible apply Own.set_at); (focus (show _ ≤ _; omega)))))
                have hG := hF; clear hF; clear hO; intro hO
                refine own_ret (v := .tuple #[.agg #[.bool _, .int .i64 _, .int .i64 _, .int .i64 _, .int .i64 tk, .bool ti], .bool true]) hO ?_ rfl (fun hO => ⟨by rw [HG.out.1, HG.out.2], hO.base⟩)
                clear hO; intro w1 hO
                (try simp only [World.size_alloc1, World.size_drew, Nat.reduceAdd] at hO); (try simp only [upd, updI, List.map_cons, List.map_nil, eq_self, if_true, if_false, reduceIte, Nat.add_eq_left, Nat.left_eq_add, Nat.reduceEqDiff, List.set_cons_zero, List.set_cons_succ, hG] at hO); clear hG
                have hF := hO; (try simp only [Own, Item.Holds, apartI, CellsAt, Nat.reduceAdd, Nat.zero_add, List.mem_cons, List.not_mem_nil, or_false, forall_eq_or_imp, forall_eq, ne_eq, false_imp_iff, implies_true, and_true] at hF)
                simp [results, Try.results5, go_sem, hF]
              · have hse := str_ne (show s ≠ ⟨#[]⟩ from fun e => g1 (by rw [← HL.out, e])); rw [toL_0] at hse
                have hsn := str_ne g2
                have HG := hid (And.intro g3 g4)
                clear g1 g2 g3 g4
                go_wp2_with (go_at_call 14; apply own_at hO; (repeat (first | (with_reducible exact hO) | (with_reducible apply Own.alloc) | (with_reducible apply Own.drew) | ((with_reducible apply Own.set_at); (focus (show _ ≤ _; omega))))); have hG := hF; clear hF; clear hO; intro hO; refine own_call hO (fun hB => HN.out _) ?_; clear hO; intro w1 hO; (try simp only [World.size_alloc1, World.size_drew, Nat.reduceAdd] at hO); (try simp only [upd, updI, List.map_cons, List.map_nil, eq_self, if_true, if_false, reduceIte, Nat.add_eq_left, Nat.left_eq_add, Nat.reduceEqDiff, List.set_cons_zero, List.set_cons_succ, hG] at hO); clear hG; have hF := hO; (try simp only [Own, Item.Holds, apartI, CellsAt, Nat.reduceAdd, Nat.zero_add, List.mem_cons, List.not_mem_nil, or_false, forall_eq_or_imp, forall_eq, ne_eq, false_imp_iff, implies_true, and_true] at hF))
                apply own_end hO
                (repeat (first | (with_reducible exact hO) | (with_reducible apply Own.alloc) | (with_reducible apply Own.drew) | ((with_reducible apply Own.set_at); (focus (show _ ≤ _; omega)))))
                have hG := hF; clear hF; clear hO; intro hO
                refine own_ret (v := .tuple #[.agg #[.bool false, .int .i64 0, .int .i64 0, .int .i64 0, .int .i64 0, .bool false], .bool false]) hO ?_ rfl (fun hO => ⟨by rw [HG.out.1, HG.out.2], hO.base⟩)
                clear hO; intro w1 hO
                (try simp only [World.size_alloc1, World.size_drew, Nat.reduceAdd] at hO); (try simp only [upd, updI, List.map_cons, List.map_nil, eq_self, if_true, if_false, reduceIte, Nat.add_eq_left, Nat.left_eq_add, Nat.reduceEqDiff, List.set_cons_zero, List.set_cons_succ, hG] at hO); clear hG
                have hF := hO; (try simp only [Own, Item.Holds, apartI, CellsAt, Nat.reduceAdd, Nat.zero_add, List.mem_cons, List.not_mem_nil, or_false, forall_eq_or_imp, forall_eq, ne_eq, false_imp_iff, implies_true, and_true] at hF)
                simp [results, Try.results5, go_sem, hF]

/- Chapter 8 in the model: ReadVoice. -/
open Go.RowKit

theorem one6w {r y : Bool} {s a o t : Int} : ∀ u ∈ [Value.bool r, .int .i64 s, .int .i64 a, .int .i64 o, .int .i64 t, .bool y], u.oneCell' = true := by
  intro u hu
  simp at hu
  rcases hu with rfl | rfl | rfl | rfl | rfl | rfl <;> rfl
theorem slice_one {s : ByteArray} {k : Nat} {c : UInt8} (h : s.data.toList[k]? = some c) (W : World) : (Instr.slice 9 (.string s) (some (.int .i64 k)) (some (.int .i64 ((k : Int) + 1))) none).run Try.prog W = .ok (.string ⟨#[c]⟩) W := by
  obtain ⟨hk, e⟩ := List.getElem?_eq_some_iff.1 h
  have h2 : s.data.toList.length = s.size := Array.length_toList
  rw [run_slice_string_if W 9 s .i64 .i64 k ((k : Int) + 1) Try.underlying9, if_pos (by omega), if_pos (by omega), Int.toNat_natCast, show ((k : Int) + 1).toNat = k + 1 by omega]
  have : s.extract k (k + 1) = ⟨#[c]⟩ := by
    apply ByteArray.ext
    rw [ByteArray.data_extract]
    apply Array.toList_inj.1
    rw [Array.toList_extract, List.extract_eq_take_drop, drop_b h, show k + 1 - k = 1 by omega]
    rfl
  rw [this]
theorem rnS_is {T : ByteArray} {r : Bool} {s a o t : Int} {y b : Bool} (hs : T.size ≤ 4611686018427387904) (h : rnN T = ⟨r, s, a, o, t, y⟩) (hb : rnB T = b) (w : World) :
    Calls Try.prog 5 #[.string T] w fun e w' => e = .returned (.tuple #[.agg #[.bool r, .int .i64 s, .int .i64 a, .int .i64 o, .int .i64 t, .bool y], .bool b]) ∧ Below w.heap.size w w' := by
  have := rnS_any T w hs
  rw [h, hb] at this
  exact this
theorem vxS_len {va : Value} {v : List Nt} {m : Nat} {w : World} (hm : v.length = m) (ha : SlAt w va m 6 (vcC v)) (hn : m ≤ 1048576) :
    Calls Try.prog 18 #[va] w fun e w' => e = .returned (.string (vxB v)) ∧ Below w.heap.size w w' := by
  subst hm
  exact vxS_any va v w ha hn
theorem vcC_up (v : List Nt) (x : Nt) : vcC (v ++ [x]) = vcC v ++ [.bool x.r, .int .i64 x.s, .int .i64 x.a, .int .i64 x.o, .int .i64 x.t, .bool x.y] := (vcC_snoc v x).symm

set_option maxRecDepth 8000 in
set_option maxHeartbeats 8000000 in
theorem rvS_any (s : ByteArray) (w : World) (hs : s.size ≤ 4611686018427387904) :
    Calls Try.prog 8 #[.string s] w (RowOutB 25 6 (rvL s).length (vcC (rvL s)) (rvB s) w) := by
  obtain ⟨i0, hi, hz0, hz1, hz2⟩ := info_parts infoN
  have hO := Own.start w
  have hF := True.intro
  have hlz : s.data.toList.length = s.size := Array.length_toList
  obtain ⟨l, hl⟩ : ∃ l, s.data.toList = l := ⟨_, rfl⟩
  obtain ⟨ls, hls⟩ : ∃ ls, s.size = ls := ⟨_, rfl⟩
  rw [hls, hl] at hlz
  rw [hls] at hs
  replace hO := hO.allocRow (e := 25) (cur := #[]) (k := 0) (cap := 0) 6 (by omega) (by unfold maxLen; omega) rfl
  by_cases h0 : l = []
  · have hse := str_eq (show s = ⟨#[]⟩ by rw [s_mk hl, h0]); rw [toL_0] at hse
    have hs0 : ls = 0 := by rw [← hlz, h0]; rfl
    have HG := hid (show rvB s = true ∧ rvL s = [] by rw [s_mk hl, h0]; exact rv_nil)
    have hsv := str_eq (show vxB [] = s by rw [s_mk hl, h0]; rfl)
    subst hs0
    clear hl hlz h0
    go_enter Try.func8, Try.ntmps8
    go_wp2_with fail
    go_loopw [4, 5, 6] (fun u t z wr => z = .int .i64 0 ∧ t = .string ⟨#[]⟩ ∧ Own w.heap.size (Below w.heap.size w) wr [.row 25 6 u 0 []]) (fun _ _ _ _ => 0)
    case atStart => exact ⟨rfl, rfl, hO⟩
    case round =>
      clear hO hF
      obtain ⟨rfl, rfl, hO⟩ := hrel
      have hF := True.intro
      obtain ⟨A1, cp1, hv1⟩ := (SlAt.of_row hO.1.1).form
      subst hv1
      go_wp2_with (go_at_call 18; apply own_at hO; (repeat (first | (with_reducible exact hO) | (with_reducible apply Own.alloc) | (with_reducible apply Own.drew) | ((with_reducible apply Own.set_at); (focus (show _ ≤ _; omega))))); have hG := hF; clear hF; clear hO; intro hO; refine own_callO hO (fun hW => vxS_any _ [] _ (SlAt.of_row hW.1.1) (by simp)) ?_; clear hO; intro w1 hO; (try simp only [World.size_alloc1, World.size_drew, Nat.reduceAdd] at hO); (try simp only [upd, updI, List.map_cons, List.map_nil, eq_self, if_true, if_false, reduceIte, Nat.add_eq_left, Nat.left_eq_add, Nat.reduceEqDiff, List.set_cons_zero, List.set_cons_succ, hG] at hO); clear hG; have hF := hO; (try simp only [Own, Item.Holds, apartI, CellsAt, Nat.reduceAdd, Nat.zero_add, List.mem_cons, List.not_mem_nil, or_false, forall_eq_or_imp, forall_eq, ne_eq, false_imp_iff, implies_true, and_true] at hF))
      go_ret2
      rw [HG.out.1, HG.out.2]
      exact RowOutB.mk hO
  · have hse := str_ne (show s ≠ ⟨#[]⟩ from fun e => h0 (by rw [← hl, e])); rw [toL_0] at hse
    obtain ⟨X, hX⟩ : ∃ X, scV l [] [] = X := ⟨_, rfl⟩
    have HST := hid ((scR_start l).trans hX)
    have HX := hid hX
    have HL := hid hl
    have H0 := hid h0
    have HZ := hid hlz
    clear hX hl h0 hlz
    go_enter Try.func8, Try.ntmps8
    go_wp2_with fail
    go_loopw [4, 5, 6] (fun u t z wr => ∃ (k : Nat) (T : ByteArray) (v : List Nt), k ≤ ls + 1 ∧ T.size ≤ k ∧ v.length ≤ 61 ∧ z = .int .i64 k ∧ t = .string T ∧ Hid (scR l k T.data.toList v = X) ∧ Own w.heap.size (Below w.heap.size w) wr [.row 25 6 u v.length (vcC v)]) (fun _ _ z _ => ls + 2 - (intOf z).toNat)
    case atStart => exact ⟨0, ⟨#[]⟩, [], by omega, Nat.le_refl _, by simp, rfl, rfl, HST, hO⟩
    case round =>
      clear hO hF
      obtain ⟨k, T, v, hk, hT, hv, rfl, rfl, HK, hO⟩ := hrel
      obtain ⟨A1, cp1, hv1⟩ := (SlAt.of_row hO.1.1).form
      subst hv1
      have hF := True.intro
      obtain ⟨m, hm⟩ : ∃ m, v.length = m := ⟨_, rfl⟩
      have HM := hid hm
      rw [hm] at hO hv ⊢
      clear hm
      have hend : (k ≤ ls ∧ m ≤ 60) ∨ (k ≤ ls ∧ 60 < m) ∨ ls < k := by omega
      rcases hend with ⟨q1, q2⟩ | hq
      · have q1' : (k : Int) ≤ ls := by omega
        have q2' : (m : Int) ≤ 60 := by omega
        have hch : (∃ c, l[k]? = some c ∧ c ≠ 32) ∨ (k = ls ∨ l[k]? = some 32) := by
          by_cases hkl : k < ls
          · have hlk : k < l.length := by rw [HZ.out]; exact hkl
            by_cases hc : l[k] = 32
            · exact Or.inr (Or.inr (by rw [List.getElem?_eq_getElem hlk, hc]))
            · exact Or.inl ⟨l[k], List.getElem?_eq_getElem hlk, hc⟩
          · exact Or.inr (Or.inl (by omega))
        rcases hch with ⟨c, hc, h32⟩ | hw
        · have hkl := (List.getElem?_eq_some_iff.1 hc).1
          rw [HZ.out] at hkl
          have hkl2 : (k : Int) < ls := by omega
          have hi2 := fun W => index_at (s := s) (by rw [HL.out]; exact hc) W
          have hi3 := fun W => slice_one (s := s) (by rw [HL.out]; exact hc) W
          have hcn := u8_ne (k := 32) (by omega) h32
          obtain ⟨z, hz⟩ : ∃ z : Int, (c.toNat : Int) = z := ⟨_, rfl⟩
          rw [hz] at hcn
          simp only [hz] at hi2
          have hcb : (z == 32) = false := beq_eq_false_iff_ne.2 hcn
          have HU := hid (show scR l (k + 1) (T ++ (⟨#[c]⟩ : ByteArray)).data.toList v = X by
            rw [← HK.out, ByteArray.data_append, Array.toList_append]
            exact scR_char hc h32 (by rw [HM.out]; omega))
          have hts : (T ++ (⟨#[c]⟩ : ByteArray)).size = T.size + 1 := by rw [ByteArray.size_append]; rfl
          clear hc h32 hz
          go_wp2_with fail
          go_roundw
          case rel => exact ⟨k + 1, _, v, by omega, by omega, by rw [HM.out]; omega, by go_num, rfl, HU, by rw [HM.out]; exact hO⟩
          case measure => simp [intOf]; omega
        · obtain ⟨⟨r, st, al, oc, tk, ti⟩, hn⟩ : ∃ N, rnN T = N := ⟨_, rfl⟩
          obtain ⟨b, hb⟩ : ∃ b, rnB T = b := ⟨_, rfl⟩
          have HC := hid (fun W => rnS_is (T := T) (by omega) hn hb W)
          have HW := hid hw
          have hw2 : (k : Int) < ls ∨ ¬ ((k : Int) < ls) := by omega
          have E2 := hid (show T = ⟨T.data.toList.toArray⟩ from s_mk rfl)
          have HN := hid (And.intro hn hb)
          have hkl : k ≤ l.length := by rw [HZ.out]; exact q1
          have hw3 : k = l.length ∨ l[k]? = some 32 := by rw [HZ.out]; exact hw
          have HKL := hid hkl
          have HW3 := hid hw3
          clear hn hb hw hkl hw3
          rcases hw2 with hw2 | hw2
          all_goals
            first | (have hi2 := fun W => index_at (s := s) (k := k) (c := 32) (by rw [HL.out]; have := HW.out; rcases this with h | h; exact absurd hw2 (by omega); exact h) W) | skip
            cases b
            · have HE := hid (rv_none HL.out H0.out (HX.out.trans (HK.out.symm.trans (scR_none HKL.out HW3.out (by rw [HM.out]; omega) (by rw [← E2.out]; exact HN.out.2)))))
              go_wp2_with (go_at_call 5; apply own_at hO; (repeat (first | (with_reducible exact hO) | (with_reducible apply Own.alloc) | (with_reducible apply Own.drew) | ((with_reducible apply Own.set_at); (focus (show _ ≤ _; omega))))); have hG := hF; clear hF; clear hO; intro hO; refine own_call hO (fun hB => HC.out _) ?_; clear hO; intro w1 hO; (try simp only [World.size_alloc1, World.size_drew, Nat.reduceAdd] at hO); (try simp only [upd, updI, List.map_cons, List.map_nil, eq_self, if_true, if_false, reduceIte, Nat.add_eq_left, Nat.left_eq_add, Nat.reduceEqDiff, List.set_cons_zero, List.set_cons_succ, hG] at hO); clear hG; have hF := hO; (try simp only [Own, Item.Holds, apartI, CellsAt, Nat.reduceAdd, Nat.zero_add, List.mem_cons, List.not_mem_nil, or_false, forall_eq_or_imp, forall_eq, ne_eq, false_imp_iff, implies_true, and_true] at hF))
              go_ret2
              rw [HE.out.1, HE.out.2]
              have hO2 := (hO.alloc (t := 25) (vs := [.bool r, .int .i64 st, .int .i64 al, .int .i64 oc, .int .i64 tk, .bool ti])).allocRow (e := 25) (cur := #[]) (k := 0) (cap := 0) 6 (by omega) (by unfold maxLen; omega) rfl
              simp only [World.size_alloc1] at hO2
              exact RowOutB.mk hO2
            · have HE := hid ((scR_word (out := v) HKL.out HW3.out (by rw [HM.out]; omega) (by rw [← E2.out]; exact HN.out.2)).trans HK.out)
              rw [← E2.out, HN.out.1] at HE
              go_wp2_with (first | (go_at_call 5; apply own_at hO; (repeat (first | (with_reducible exact hO) | (with_reducible apply Own.alloc) | (with_reducible apply Own.drew) | ((with_reducible apply Own.set_at); (focus (show _ ≤ _; omega))))); have hG := hF; clear hF; clear hO; intro hO; refine own_call hO (fun hB => HC.out _) ?_; clear hO; intro w1 hO; (try simp only [World.size_alloc1, World.size_drew, Nat.reduceAdd] at hO); (try simp only [upd, updI, List.map_cons, List.map_nil, eq_self, if_true, if_false, reduceIte, Nat.add_eq_left, Nat.left_eq_add, Nat.reduceEqDiff, List.set_cons_zero, List.set_cons_succ, hG] at hO); clear hG; have hF := hO; (try simp only [Own, Item.Holds, apartI, CellsAt, Nat.reduceAdd, Nat.zero_add, List.mem_cons, List.not_mem_nil, or_false, forall_eq_or_imp, forall_eq, ne_eq, false_imp_iff, implies_true, and_true] at hF)) | (at_builtin; apply own_list hO; (repeat (first | (with_reducible exact hO) | (with_reducible apply Own.alloc) | (with_reducible apply Own.drew) | ((with_reducible apply Own.set_at); (focus (show _ ≤ _; omega))))); have hG := hF; clear hF; clear hO; intro hO; (try simp only [World.size_alloc1, World.size_drew, Nat.reduceAdd] at hO); (try simp only [upd, updI, List.map_cons, List.map_nil, eq_self, if_true, if_false, reduceIte, Nat.add_eq_left, Nat.left_eq_add, Nat.reduceEqDiff, List.set_cons_zero, List.set_cons_succ, hG] at hO); clear hG; (try simp only [World.size_setCell] at hO); have hF := hO; (try simp only [Own, Item.Holds, apartI, CellsAt, Nat.reduceAdd, Nat.zero_add, List.mem_cons, List.not_mem_nil, or_false, forall_eq_or_imp, forall_eq, ne_eq, false_imp_iff, implies_true, and_true] at hF); replace hO := Own.sub (.cons_cons _ (.cons _ (.cons_cons _ .slnil))) hO; refine wpList_append_item rfl _ _ 30 rfl 25 i0 (.agg #[.bool false, .int .i64 0, .int .i64 0, .int .i64 0, .int .i64 0, .bool false]) 6 48 Try.underlying30 hi hz0 hz1 hz2 rfl (by decide) rfl rfl hO rfl one6w (by unfold maxLen; omega) (by omega) ?_; clear hO hF; intro v' w3 hO _; have hF := True.intro))
              go_roundw
              case rel => exact ⟨k + 1, ⟨#[]⟩, v ++ [⟨r, st, al, oc, tk, ti⟩], by omega, by show 0 ≤ _; omega, by rw [List.length_append, HM.out]; simp; omega, by go_num, rfl, HE, by rw [List.length_append, HM.out, vcC_up]; exact hO⟩
              case measure => simp [intOf]; omega
      · have HS := hid (show scV l [] [] = some v by
          rw [HX.out, ← HK.out]
          rcases hq with ⟨_, q2⟩ | q2
          · exact scR_full (by rw [HM.out]; exact q2)
          · exact scR_done (by rw [HZ.out]; exact q2))
        have hq1 : ¬ ((k : Int) ≤ ls) ∨ ((k : Int) ≤ ls ∧ ¬ ((m : Int) ≤ 60)) := by omega
        rcases rv_some HL.out H0.out HS.out with ⟨g1, g2, g3⟩ | ⟨g1, g2, g3⟩
        · have hsv := str_eq g1
          have HG := hid (And.intro g2 g3)
          clear g1 g2 g3
          rcases hq1 with hq1 | ⟨hq1, hq2⟩
          all_goals
            go_wp2_with (go_at_call 18; apply own_at hO; (repeat (first | (with_reducible exact hO) | (with_reducible apply Own.alloc) | (with_reducible apply Own.drew) | ((with_reducible apply Own.set_at); (focus (show _ ≤ _; omega))))); have hG := hF; clear hF; clear hO; intro hO; refine own_callO hO (fun hW => vxS_len HM.out (SlAt.of_row hW.1.1) (by omega)) ?_; clear hO; intro w1 hO; (try simp only [World.size_alloc1, World.size_drew, Nat.reduceAdd] at hO); (try simp only [upd, updI, List.map_cons, List.map_nil, eq_self, if_true, if_false, reduceIte, Nat.add_eq_left, Nat.left_eq_add, Nat.reduceEqDiff, List.set_cons_zero, List.set_cons_succ, hG] at hO); clear hG; have hF := hO; (try simp only [Own, Item.Holds, apartI, CellsAt, Nat.reduceAdd, Nat.zero_add, List.mem_cons, List.not_mem_nil, or_false, forall_eq_or_imp, forall_eq, ne_eq, false_imp_iff, implies_true, and_true] at hF))
            go_ret2
            rw [HG.out.1, HG.out.2, HM.out]
            exact RowOutB.mk hO
        · have hsv := str_ne g1
          have HG := hid (And.intro g2 g3)
          clear g1 g2 g3
          rcases hq1 with hq1 | ⟨hq1, hq2⟩
          all_goals
            go_wp2_with (go_at_call 18; apply own_at hO; (repeat (first | (with_reducible exact hO) | (with_reducible apply Own.alloc) | (with_reducible apply Own.drew) | ((with_reducible apply Own.set_at); (focus (show _ ≤ _; omega))))); have hG := hF; clear hF; clear hO; intro hO; refine own_callO hO (fun hW => vxS_len HM.out (SlAt.of_row hW.1.1) (by omega)) ?_; clear hO; intro w1 hO; (try simp only [World.size_alloc1, World.size_drew, Nat.reduceAdd] at hO); (try simp only [upd, updI, List.map_cons, List.map_nil, eq_self, if_true, if_false, reduceIte, Nat.add_eq_left, Nat.left_eq_add, Nat.reduceEqDiff, List.set_cons_zero, List.set_cons_succ, hG] at hO); clear hG; have hF := hO; (try simp only [Own, Item.Holds, apartI, CellsAt, Nat.reduceAdd, Nat.zero_add, List.mem_cons, List.not_mem_nil, or_false, forall_eq_or_imp, forall_eq, ne_eq, false_imp_iff, implies_true, and_true] at hF))
            go_ret2
            rw [HG.out.1, HG.out.2]
            have hO2 := hO.allocRow (e := 25) (cur := #[]) (k := 0) (cap := 0) 6 (by omega) (by unfold maxLen; omega) rfl
            exact RowOutB.mk hO2

/- What the functions of chapter 8 answer, as contracts; the model keeps them. -/
open Go.RowKit

/-- What is answered: the text of a note; the note of a text; the text of a voice; the voice of a text. -/
def CNoteText (f : FuncId) (w : World) : Prop := ∀ (x : Nt) (W : World), Below w.heap.size w W →
  Calls Try.prog f #[.agg #[.bool x.r, .int .i64 x.s, .int .i64 x.a, .int .i64 x.o, .int .i64 x.t, .bool x.y]] W fun e w' => e = .returned (.string (ntB x)) ∧ Below W.heap.size W w'
def CReadNote (f : FuncId) (w : World) : Prop := ∀ (T : ByteArray) (W : World), Below w.heap.size w W → T.size ≤ 2097152 →
  Calls Try.prog f #[.string T] W fun e w' => e = .returned (.tuple #[.agg #[.bool (rnN T).r, .int .i64 (rnN T).s, .int .i64 (rnN T).a, .int .i64 (rnN T).o, .int .i64 (rnN T).t, .bool (rnN T).y], .bool (rnB T)]) ∧ Below W.heap.size W w'
def CVoiceText (f : FuncId) (w : World) : Prop := ∀ (va : Value) (v : List Nt) (W : World), Below w.heap.size w W → SlAt W va v.length 6 (vcC v) → v.length ≤ 1048576 →
  Calls Try.prog f #[va] W fun e w' => e = .returned (.string (vxB v)) ∧ Below W.heap.size W w'
def CReadVoice (f : FuncId) (w : World) : Prop := ∀ (T : ByteArray) (W : World), Below w.heap.size w W → T.size ≤ 2097152 →
  Calls Try.prog f #[.string T] W (RowOutB 25 6 (rvL T).length (vcC (rvL T)) (rvB T) W)

theorem CNoteText.is {f : FuncId} {w : World} (h : CNoteText f w) {r : Bool} {s a o t : Int} {y : Bool} {T : ByteArray} (ht : ntB ⟨r, s, a, o, t, y⟩ = T) (W : World) (hW : Below w.heap.size w W) :
    Calls Try.prog f #[.agg #[.bool r, .int .i64 s, .int .i64 a, .int .i64 o, .int .i64 t, .bool y]] W fun e w' => e = .returned (.string T) ∧ Below W.heap.size W w' := by
  subst ht; exact h _ W hW
theorem CReadNote.is {f : FuncId} {w : World} (h : CReadNote f w) {T : ByteArray} {r : Bool} {s a o t : Int} {y b : Bool} (hs : T.size ≤ 2097152) (hn : rnN T = ⟨r, s, a, o, t, y⟩) (hb : rnB T = b) (W : World) (hW : Below w.heap.size w W) :
    Calls Try.prog f #[.string T] W fun e w' => e = .returned (.tuple #[.agg #[.bool r, .int .i64 s, .int .i64 a, .int .i64 o, .int .i64 t, .bool y], .bool b]) ∧ Below W.heap.size W w' := by
  have := h T W hW hs
  rw [hn, hb] at this
  exact this
theorem CVoiceText.is {f : FuncId} {w : World} (h : CVoiceText f w) {v : List Nt} {m : Nat} {T : ByteArray} (hm : v.length = m) (hn : m ≤ 1048576) (ht : vxB v = T) (va : Value) (W : World) (hW : Below w.heap.size w W) (hs : SlAt W va m 6 (vcC v)) :
    Calls Try.prog f #[va] W fun e w' => e = .returned (.string T) ∧ Below W.heap.size W w' := by
  subst ht hm; exact h va v W hW hs hn
theorem CReadVoice.is {f : FuncId} {w : World} (h : CReadVoice f w) {T : ByteArray} {u : List Nt} {b : Bool} (hs : T.size ≤ 2097152) (hn : rvL T = u) (hb : rvB T = b) (W : World) (hW : Below w.heap.size w W) :
    Calls Try.prog f #[.string T] W (RowOutB 25 6 u.length (vcC u) b W) := by
  subst hn hb; exact h T W hW hs
theorem ntS_C (w : World) : CNoteText 14 w := fun x W _ => ntS_any x W
theorem rnS_C (w : World) : CReadNote 5 w := fun T W _ hs => rnS_any T W (by omega)
theorem vxS_C (w : World) : CVoiceText 18 w := fun va v W _ hs hn => vxS_any va v W hs hn
theorem rvS_C (w : World) : CReadVoice 8 w := fun T W _ hs => rvS_any T W (by omega)
end Go.Proofs.Ytefbphmlhghojaa
