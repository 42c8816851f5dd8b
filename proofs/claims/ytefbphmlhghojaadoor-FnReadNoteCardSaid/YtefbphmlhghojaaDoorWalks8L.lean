/- Chapter 8 in the program: the texts of notes and voices. -/
import Derived.Test.YtefbphmlhghojaaDoorWalksText2
import Derived.Test.YtefbphmlhghojaaDoorShelf
import Derived.Test.YtefbphmlhghojaaDoorWalks8N
import Derived.Test.YtefbphmlhghojaaDoorWalks5A
import Derived.Lib.ItoaNum
import Derived.Lib.SmallJoins
import Derived.Lib.LaidTab
import Derived.Lib.Join
namespace Go.Proofs.YtefbphmlhghojaaDoor
set_option linter.unusedSimpArgs false
set_option linter.unusedVariables false
open Go.RowKit Go.Joins

/-- The library's table of powers of ten lies as its text lays it. -/
def TabP (w : World) : Prop := Lib.TabIs Tryd.prog w "internal/strconv.uint64pow10" .u64 Lib.pow10Tab
theorem gP : (Tryd.prog.globalNamed "internal/strconv.uint64pow10").isSome = true := by kernel_rfl
theorem TabP.below {w w' : World} (h : TabP w) (hb : Below w.heap.size w w') : TabP w' := by
  obtain ⟨g, hg⟩ := Option.isSome_iff_exists.1 gP
  exact tab_stays hg h hb (Nat.le_refl _)
theorem below_grow8 (w : World) (k : Nat) (os : Array Obj) : Below w.heap.size w (Go.Sort.grow (w.drewN k) os) :=
  ⟨rfl, rfl, rfl, by show w.heap.size ≤ (w.heap ++ os).size; rw [Array.size_append]; omega, fun j hj => by
    show (w.heap ++ os)[j]? = w.heap[j]?
    rw [Array.getElem?_append_left hj]⟩
theorem dec_nu {k : Nat} (h : k < 1000) : Lib.decDigits k = nuL k := by
  unfold nuL
  by_cases h1 : k < 10
  · rw [if_pos h1, Lib.decDigits, dif_pos h1]; rfl
  · rw [if_neg h1, Lib.decDigits, dif_neg h1]
    by_cases h2 : k < 100
    · rw [if_pos h2, Lib.decDigits, dif_pos (by omega)]; rfl
    · rw [if_neg h2, Lib.decDigits, dif_neg (by omega), Lib.decDigits, dif_pos (by omega), show k / 10 / 10 = k / 100 by omega]; rfl
theorem itoa_num {t : Int} (h0 : 0 ≤ t) (h1 : t ≤ 768) (w : World) (hp : TabP w) :
    Calls Tryd.prog 35 #[.int .i64 t] w fun e w' => e = .returned (.string (nuB t.toNat)) ∧ Below w.heap.size w w' := by
  refine (Tryd.strconv_Itoa t (by omega) (by omega) w hp).mono fun e w' ⟨he, k, os, hw⟩ => ⟨?_, ?_⟩
  · rw [he, Lib.itoa, if_neg (by omega), dec_nu (by omega)]; rfl
  · rw [hw]; exact below_grow8 w k os

set_option maxHeartbeats 4000000 in
theorem ntI_any (x : Nt) (w : World) (hp : TabP w) :
    Calls Tryd.prog 10 #[.agg #[.bool x.r, .int .i64 x.s, .int .i64 x.a, .int .i64 x.o, .int .i64 x.t, .bool x.y]] w fun e w' => e = .returned (.string (ntB x)) ∧ Below w.heap.size w w' := by
  have hO := Own.start w
  have hF := True.intro
  have HP := hid hp
  clear hp
  have HV := hid (fun W => nvI_any x W)
  cases hn : nvB x
  · have HE := hid (ntB_no hn)
    rw [hn] at HV
    clear hn
    go_enter Tryd.func10, Tryd.ntmps10
    go_wp2_with (go_at_call 33; apply own_at hO; (repeat (first | (with_reducible exact hO) | (with_reducible apply Own.alloc) | (with_reducible apply Own.drew) | ((with_reducible apply Own.set_at); (focus (show _ ≤ _; omega))))); have hG := hF; clear hF; clear hO; intro hO; refine own_call hO (fun hB => HV.out _) ?_; clear hO; intro w1 hO; (try simp only [World.size_alloc1, World.size_drew, Nat.reduceAdd] at hO); (try simp only [upd, updI, List.map_cons, List.map_nil, eq_self, if_true, if_false, reduceIte, Nat.add_eq_left, Nat.left_eq_add, Nat.reduceEqDiff, List.set_cons_zero, List.set_cons_succ, hG] at hO); clear hG; have hF := hO; (try simp only [Own, Item.Holds, apartI, CellsAt, Nat.reduceAdd, Nat.zero_add, List.mem_cons, List.not_mem_nil, or_false, forall_eq_or_imp, forall_eq, ne_eq, false_imp_iff, implies_true, and_true] at hF))
    go_ret
    exact ⟨by rw [HE.out]; rfl, Own.base (by (repeat (first | (with_reducible exact hO) | (with_reducible apply Own.alloc) | (with_reducible apply Own.drew) | ((with_reducible apply Own.set_at); (focus (show _ ≤ _; omega))))))⟩
  · rw [hn] at HV
    obtain ⟨t2, t1⟩ := (nvB_iff.1 hn).2.1
    have t0 : 0 ≤ x.t := by omega
    have hs := nuB_size x.t.toNat
    have hp := text_len (nvB_iff.1 hn).2.2
    have HR := (nvB_iff.1 hn).1
    obtain ⟨ns, hns⟩ : ∃ ns, (nuB x.t.toNat).size = ns := ⟨_, rfl⟩
    obtain ⟨ps, hps⟩ : ∃ ps, (textB x.s x.a x.o).size = ps := ⟨_, rfl⟩
    rw [hns] at hs
    rw [hps] at hp
    have b1 : ((⟨#[114]⟩ : ByteArray) ++ (⟨#[47]⟩ : ByteArray)).size = 2 := rfl
    have b2 : (textB x.s x.a x.o ++ (⟨#[47]⟩ : ByteArray)).size = ps + 1 := by rw [ByteArray.size_append, hps]; rfl
    have b3 : (((⟨#[114]⟩ : ByteArray) ++ (⟨#[47]⟩ : ByteArray)) ++ nuB x.t.toNat).size = 2 + ns := by rw [ByteArray.size_append, hns, b1]
    have b4 : ((textB x.s x.a x.o ++ (⟨#[47]⟩ : ByteArray)) ++ nuB x.t.toNat).size = ps + 1 + ns := by rw [ByteArray.size_append, hns, b2]
    cases hr : x.r
    · cases hy : x.y
      · have HE := hid (nt_tone hn hr hy)
        rw [hr, hy] at HV
        clear hn HR
        go_enter Tryd.func10, Tryd.ntmps10
        go_wp2_with (first | (go_at_call 33; apply own_at hO; (repeat (first | (with_reducible exact hO) | (with_reducible apply Own.alloc) | (with_reducible apply Own.drew) | ((with_reducible apply Own.set_at); (focus (show _ ≤ _; omega))))); have hG := hF; clear hF; clear hO; intro hO; refine own_call hO (fun hB => HV.out _) ?_; clear hO; intro w1 hO; (try simp only [World.size_alloc1, World.size_drew, Nat.reduceAdd] at hO); (try simp only [upd, updI, List.map_cons, List.map_nil, eq_self, if_true, if_false, reduceIte, Nat.add_eq_left, Nat.left_eq_add, Nat.reduceEqDiff, List.set_cons_zero, List.set_cons_succ, hG] at hO); clear hG; have hF := hO; (try simp only [Own, Item.Holds, apartI, CellsAt, Nat.reduceAdd, Nat.zero_add, List.mem_cons, List.not_mem_nil, or_false, forall_eq_or_imp, forall_eq, ne_eq, false_imp_iff, implies_true, and_true] at hF)) | (go_at_call 34; apply own_at hO; (repeat (first | (with_reducible exact hO) | (with_reducible apply Own.alloc) | (with_reducible apply Own.drew) | ((with_reducible apply Own.set_at); (focus (show _ ≤ _; omega))))); have hG := hF; clear hF; clear hO; intro hO; refine own_call hO (fun hB => textI_any _ _ _ _) ?_; clear hO; intro w1 hO; (try simp only [World.size_alloc1, World.size_drew, Nat.reduceAdd] at hO); (try simp only [upd, updI, List.map_cons, List.map_nil, eq_self, if_true, if_false, reduceIte, Nat.add_eq_left, Nat.left_eq_add, Nat.reduceEqDiff, List.set_cons_zero, List.set_cons_succ, hG] at hO); clear hG; have hF := hO; (try simp only [Own, Item.Holds, apartI, CellsAt, Nat.reduceAdd, Nat.zero_add, List.mem_cons, List.not_mem_nil, or_false, forall_eq_or_imp, forall_eq, ne_eq, false_imp_iff, implies_true, and_true] at hF)) | (go_at_call 35; apply own_at hO; (repeat (first | (with_reducible exact hO) | (with_reducible apply Own.alloc) | (with_reducible apply Own.drew) | ((with_reducible apply Own.set_at); (focus (show _ ≤ _; omega))))); have hG := hF; clear hF; clear hO; intro hO; refine own_call hO (fun hB => itoa_num t0 t1 _ (HP.out.below hB)) ?_; clear hO; intro w1 hO; (try simp only [World.size_alloc1, World.size_drew, Nat.reduceAdd] at hO); (try simp only [upd, updI, List.map_cons, List.map_nil, eq_self, if_true, if_false, reduceIte, Nat.add_eq_left, Nat.left_eq_add, Nat.reduceEqDiff, List.set_cons_zero, List.set_cons_succ, hG] at hO); clear hG; have hF := hO; (try simp only [Own, Item.Holds, apartI, CellsAt, Nat.reduceAdd, Nat.zero_add, List.mem_cons, List.not_mem_nil, or_false, forall_eq_or_imp, forall_eq, ne_eq, false_imp_iff, implies_true, and_true] at hF)))
        go_ret
        exact ⟨by rw [← HE.out]; rfl, Own.base (by (repeat (first | (with_reducible exact hO) | (with_reducible apply Own.alloc) | (with_reducible apply Own.drew) | ((with_reducible apply Own.set_at); (focus (show _ ≤ _; omega))))))⟩
      · have HE := hid (nt_tie hn hr hy)
        rw [hr, hy] at HV
        clear hn HR
        go_enter Tryd.func10, Tryd.ntmps10
        go_wp2_with (first | (go_at_call 33; apply own_at hO; (repeat (first | (with_reducible exact hO) | (with_reducible apply Own.alloc) | (with_reducible apply Own.drew) | ((with_reducible apply Own.set_at); (focus (show _ ≤ _; omega))))); have hG := hF; clear hF; clear hO; intro hO; refine own_call hO (fun hB => HV.out _) ?_; clear hO; intro w1 hO; (try simp only [World.size_alloc1, World.size_drew, Nat.reduceAdd] at hO); (try simp only [upd, updI, List.map_cons, List.map_nil, eq_self, if_true, if_false, reduceIte, Nat.add_eq_left, Nat.left_eq_add, Nat.reduceEqDiff, List.set_cons_zero, List.set_cons_succ, hG] at hO); clear hG; have hF := hO; (try simp only [Own, Item.Holds, apartI, CellsAt, Nat.reduceAdd, Nat.zero_add, List.mem_cons, List.not_mem_nil, or_false, forall_eq_or_imp, forall_eq, ne_eq, false_imp_iff, implies_true, and_true] at hF)) | (go_at_call 34; apply own_at hO; (repeat (first | (with_reducible exact hO) | (with_reducible apply Own.alloc) | (with_reducible apply Own.drew) | ((with_reducible apply Own.set_at); (focus (show _ ≤ _; omega))))); have hG := hF; clear hF; clear hO; intro hO; refine own_call hO (fun hB => textI_any _ _ _ _) ?_; clear hO; intro w1 hO; (try simp only [World.size_alloc1, World.size_drew, Nat.reduceAdd] at hO); (try simp only [upd, updI, List.map_cons, List.map_nil, eq_self, if_true, if_false, reduceIte, Nat.add_eq_left, Nat.left_eq_add, Nat.reduceEqDiff, List.set_cons_zero, List.set_cons_succ, hG] at hO); clear hG; have hF := hO; (try simp only [Own, Item.Holds, apartI, CellsAt, Nat.reduceAdd, Nat.zero_add, List.mem_cons, List.not_mem_nil, or_false, forall_eq_or_imp, forall_eq, ne_eq, false_imp_iff, implies_true, and_true] at hF)) | (go_at_call 35; apply own_at hO; (repeat (first | (with_reducible exact hO) | (with_reducible apply Own.alloc) | (with_reducible apply Own.drew) | ((with_reducible apply Own.set_at); (focus (show _ ≤ _; omega))))); have hG := hF; clear hF; clear hO; intro hO; refine own_call hO (fun hB => itoa_num t0 t1 _ (HP.out.below hB)) ?_; clear hO; intro w1 hO; (try simp only [World.size_alloc1, World.size_drew, Nat.reduceAdd] at hO); (try simp only [upd, updI, List.map_cons, List.map_nil, eq_self, if_true, if_false, reduceIte, Nat.add_eq_left, Nat.left_eq_add, Nat.reduceEqDiff, List.set_cons_zero, List.set_cons_succ, hG] at hO); clear hG; have hF := hO; (try simp only [Own, Item.Holds, apartI, CellsAt, Nat.reduceAdd, Nat.zero_add, List.mem_cons, List.not_mem_nil, or_false, forall_eq_or_imp, forall_eq, ne_eq, false_imp_iff, implies_true, and_true] at hF)))
        go_ret
        exact ⟨by rw [← HE.out]; rfl, Own.base (by (repeat (first | (with_reducible exact hO) | (with_reducible apply Own.alloc) | (with_reducible apply Own.drew) | ((with_reducible apply Own.set_at); (focus (show _ ≤ _; omega))))))⟩
    · have hy := (HR hr).1
      have HE := hid (nt_rest hn hr hy)
      rw [hr, hy] at HV
      clear hn HR
      rw [hy]
      go_enter Tryd.func10, Tryd.ntmps10
      go_wp2_with (first | (go_at_call 33; apply own_at hO; (repeat (first | (with_reducible exact hO) | (with_reducible apply Own.alloc) | (with_reducible apply Own.drew) | ((with_reducible apply Own.set_at); (focus (show _ ≤ _; omega))))); have hG := hF; clear hF; clear hO; intro hO; refine own_call hO (fun hB => HV.out _) ?_; clear hO; intro w1 hO; (try simp only [World.size_alloc1, World.size_drew, Nat.reduceAdd] at hO); (try simp only [upd, updI, List.map_cons, List.map_nil, eq_self, if_true, if_false, reduceIte, Nat.add_eq_left, Nat.left_eq_add, Nat.reduceEqDiff, List.set_cons_zero, List.set_cons_succ, hG] at hO); clear hG; have hF := hO; (try simp only [Own, Item.Holds, apartI, CellsAt, Nat.reduceAdd, Nat.zero_add, List.mem_cons, List.not_mem_nil, or_false, forall_eq_or_imp, forall_eq, ne_eq, false_imp_iff, implies_true, and_true] at hF)) | (go_at_call 35; apply own_at hO; (repeat (first | (with_reducible exact hO) | (with_reducible apply Own.alloc) | (with_reducible apply Own.drew) | ((with_reducible apply Own.set_at); (focus (show _ ≤ _; omega))))); have hG := hF; clear hF; clear hO; intro hO; refine own_call hO (fun hB => itoa_num t0 t1 _ (HP.out.below hB)) ?_; clear hO; intro w1 hO; (try simp only [World.size_alloc1, World.size_drew, Nat.reduceAdd] at hO); (try simp only [upd, updI, List.map_cons, List.map_nil, eq_self, if_true, if_false, reduceIte, Nat.add_eq_left, Nat.left_eq_add, Nat.reduceEqDiff, List.set_cons_zero, List.set_cons_succ, hG] at hO); clear hG; have hF := hO; (try simp only [Own, Item.Holds, apartI, CellsAt, Nat.reduceAdd, Nat.zero_add, List.mem_cons, List.not_mem_nil, or_false, forall_eq_or_imp, forall_eq, ne_eq, false_imp_iff, implies_true, and_true] at hF)))
      go_ret
      exact ⟨by rw [← HE.out]; rfl, Own.base (by (repeat (first | (with_reducible exact hO) | (with_reducible apply Own.alloc) | (with_reducible apply Own.drew) | ((with_reducible apply Own.set_at); (focus (show _ ≤ _; omega))))))⟩
theorem ntI_C (w : World) (hp : TabP w) : CNoteText 10 w := fun x W hW => ntI_any x W (hp.below hW)

/-! ### Voices -/

theorem infoT8 : (Tryd.prog.info? 9).map (fun i => (i.zero, i.size, i.bytes)) = some (some (.string ByteArray.empty), 1, 16) := by kernel_rfl
/-- the texts of which j are laid. -/
def mixS (v : List Nt) (j n : Nat) : List Value := (v.take j).map (fun x => Value.string (ntB x)) ++ List.replicate (n - j) (.string ByteArray.empty)
theorem mixS_zero (v : List Nt) (n : Nat) : (madeCells (Value.string ByteArray.empty).cells (n * 1)).toList = mixS v 0 n := by
  have := made_rep #[Value.string ByteArray.empty] (by decide) n
  have e : (madeCells (Value.string ByteArray.empty).cells (n * 1)).toList = (List.replicate n [Value.string ByteArray.empty]).flatten := this
  rw [e]
  simp [mixS]
theorem mixS_full {v : List Nt} {n : Nat} (hn : v.length = n) : mixS v n n = v.map fun x => Value.string (ntB x) := by
  subst hn
  simp [mixS]
theorem mixS_at {v : List Nt} {j n : Nat} (hn : v.length = n) (hj : j < n) : (mixS v j n)[j]? = some (.string ByteArray.empty) := by
  unfold mixS
  rw [List.getElem?_append_right (by simp; omega)]
  have : j - ((v.take j).map fun x => Value.string (ntB x)).length = 0 := by simp; omega
  rw [this, show n - j = (n - j - 1) + 1 by omega, List.replicate_succ]
  rfl
theorem mixS_up {v : List Nt} {j n : Nat} {x : Nt} (hx : v[j]? = some x) (hj : j < n) : (mixS v j n).set j (.string (ntB x)) = mixS v (j + 1) n := by
  have hl : j < v.length := (List.getElem?_eq_some_iff.1 hx).1
  have hk : ((v.take j).map fun x => Value.string (ntB x)).length = j := by simp; omega
  unfold mixS
  rw [List.set_append, if_neg (by rw [hk]; omega), hk, Nat.sub_self, show n - j = (n - (j + 1)) + 1 by omega, List.replicate_succ, List.take_add_one, hx]
  simp
theorem vxL_join : ∀ (x : Nt) (l : List Nt), vxL (x :: l) = nxL x ++ (l.map fun z => 32 :: nxL z).flatten
  | x, [] => by simp [vxL]
  | x, y :: l => by
    show nxL x ++ 32 :: vxL (y :: l) = _
    rw [vxL_join y l]
    simp
theorem join_vx {v : List Nt} (hv : ∀ x ∈ v, nvB x = true) : Lib.join ((v.map ntB).map (·.data.toList)) [32] = vxL v := by
  have e : (v.map ntB).map (·.data.toList) = v.map nxL := by
    rw [List.map_map]
    refine List.map_congr_left fun x hx => ?_
    show (ntB x).data.toList = nxL x
    rw [ntB_yes (hv x hx)]
  rw [e]
  cases v with
  | nil => rfl
  | cons x l =>
    rw [List.map_cons, Lib.join_cons, vxL_join, Lib.joinTail, List.map_map]
    rfl
theorem joinI_any {v : List Nt} {m q : Nat} (hm : v.length = m) (hv : ∀ x ∈ v, nvB x = true) (h60 : m ≤ 60) {n : Nat} {B : World → Prop} {w : World} {L : List Item} (hO : Own n B w (.row 9 1 (.slice (some ⟨q, 0, none⟩) m m) m (v.map fun x => Value.string (ntB x)) :: L)) :
    Calls Tryd.prog 46 #[.slice (some ⟨q, 0, none⟩) m m, .string ⟨#[32]⟩] w fun e w' => e = .returned (.string ⟨(vxL v).toArray⟩) ∧ Below w.heap.size w w' := by
  have hl : (v.map ntB).length = m := by rw [List.length_map, hm]
  have hj := join_vx hv
  have h := Tryd.strings_Join q 0 m (v.map ntB) ⟨#[32]⟩ w (fun j x hx => by
      rw [Nat.zero_add]
      refine hO.row_cell (u := .string x) ?_
      rw [List.getElem?_map] at hx ⊢
      cases hv : v[j]? with
      | none => rw [hv] at hx; cases hx
      | some y => rw [hv] at hx; cases hx; rfl)
    ((Item.Holds.lt (x := .row _ _ _ _ _) hO.1.1 q rfl).2) (by omega) (by omega) (by
      show (Lib.join _ [32]).length ≤ _
      rw [hj]
      have := vxL_len hv
      omega)
  rw [hl] at h
  refine h.mono fun e w' ⟨he, hb⟩ => ⟨?_, hb⟩
  rw [he]
  show Ending.returned (.string ⟨(Lib.join _ [32]).toArray⟩) = _
  rw [hj]

set_option maxRecDepth 8000 in
set_option maxHeartbeats 4000000 in
theorem vxI_any (va : Value) (v : List Nt) (w : World) (hp : TabP w) (ha : SlAt w va v.length 6 (vcC v)) (hn : v.length ≤ 1048576) :
    Calls Tryd.prog 18 #[va] w fun e w' => e = .returned (.string (vxB v)) ∧ Below w.heap.size w w' := by
  have hO := Own.start w
  have hF := True.intro
  have HP := hid hp
  clear hp
  obtain ⟨A, c, rfl, nb, hA⟩ := ha.open
  have HA := hid ha
  clear ha
  obtain ⟨n, hnl⟩ : ∃ n, v.length = n := ⟨_, rfl⟩
  have HN := hid hnl
  rw [hnl] at hn nb hA HA
  cases hv : voB v
  · have HE := hid (vxB_no hv)
    have HV := hid (fun W hW => voI_is hnl HA.out hn hv W hW)
    rw [hnl]
    clear hnl hv
    go_enter Tryd.func18, Tryd.ntmps18
    go_wp2_with (go_at_call 25; apply own_at hO; (repeat (first | (with_reducible exact hO) | (with_reducible apply Own.alloc) | (with_reducible apply Own.drew) | ((with_reducible apply Own.set_at); (focus (show _ ≤ _; omega))))); have hG := hF; clear hF; clear hO; intro hO; refine own_call hO (fun hB => HV.out _ hB) ?_; clear hO; intro w1 hO; (try simp only [World.size_alloc1, World.size_drew, Nat.reduceAdd] at hO); (try simp only [upd, updI, List.map_cons, List.map_nil, eq_self, if_true, if_false, reduceIte, Nat.add_eq_left, Nat.left_eq_add, Nat.reduceEqDiff, List.set_cons_zero, List.set_cons_succ, hG] at hO); clear hG; have hF := hO; (try simp only [Own, Item.Holds, apartI, CellsAt, Nat.reduceAdd, Nat.zero_add, List.mem_cons, List.not_mem_nil, or_false, forall_eq_or_imp, forall_eq, ne_eq, false_imp_iff, implies_true, and_true] at hF))
    go_ret
    exact ⟨by rw [HE.out]; rfl, Own.base (by (repeat (first | (with_reducible exact hO) | (with_reducible apply Own.alloc) | (with_reducible apply Own.drew) | ((with_reducible apply Own.set_at); (focus (show _ ≤ _; omega))))))⟩
  · have HE := hid (vxB_yes hv)
    have HV := hid (fun W hW => voI_is hnl HA.out hn hv W hW)
    have HVO := hid hv
    have HN6 := (voB_iff.1 hv).2
    rw [hnl] at HN6
    rw [hnl]
    clear hnl hv
    obtain ⟨i0, hi, hz0, hz1, hz2⟩ := info_parts infoT8
    go_enter Tryd.func18, Tryd.ntmps18
    go_wp2_with (first | (go_at_call 25; apply own_at hO; (repeat (first | (with_reducible exact hO) | (with_reducible apply Own.alloc) | (with_reducible apply Own.drew) | ((with_reducible apply Own.set_at); (focus (show _ ≤ _; omega))))); have hG := hF; clear hF; clear hO; intro hO; refine own_call hO (fun hB => HV.out _ hB) ?_; clear hO; intro w1 hO; (try simp only [World.size_alloc1, World.size_drew, Nat.reduceAdd] at hO); (try simp only [upd, updI, List.map_cons, List.map_nil, eq_self, if_true, if_false, reduceIte, Nat.add_eq_left, Nat.left_eq_add, Nat.reduceEqDiff, List.set_cons_zero, List.set_cons_succ, hG] at hO); clear hG; have hF := hO; (try simp only [Own, Item.Holds, apartI, CellsAt, Nat.reduceAdd, Nat.zero_add, List.mem_cons, List.not_mem_nil, or_false, forall_eq_or_imp, forall_eq, ne_eq, false_imp_iff, implies_true, and_true] at hF)) | (at_make; go_loud (refine wpList_make_item rfl _ _ 64 rfl 9 i0 (.string ByteArray.empty) 1 16 Tryd.underlying64 hi hz0 hz1 hz2 _ _ _ _ n rfl rfl rfl rfl (by omega) (by unfold maxLen; omega) (by (repeat (first | (with_reducible exact hO) | (with_reducible apply Own.alloc) | (with_reducible apply Own.drew) | ((with_reducible apply Own.set_at); (focus (show _ ≤ _; omega)))))) ?_); clear hO hF; intro q w2 hO; have hF := True.intro))
    rw [mixS_zero v n] at hO
    go_loopw [14] (fun t wr => ∃ j : Nat, j ≤ n ∧ t = .int .i64 j ∧ Own w.heap.size (Below w.heap.size w) wr [.row 9 1 (.slice (some ⟨q, 0, none⟩) n n) n (mixS v j n)]) (fun t _ => n - (intOf t).toNat)
    case atStart => exact ⟨0, by omega, rfl, hO⟩
    case round =>
      clear hO
      obtain ⟨j, hj, rfl, hO⟩ := hrel
      have hF := hO; (try simp only [Own, Item.Holds, apartI, CellsAt, Nat.reduceAdd, Nat.zero_add, List.mem_cons, List.not_mem_nil, or_false, forall_eq_or_imp, forall_eq, ne_eq, false_imp_iff, implies_true, and_true] at hF)
      by_cases he : j = n
      · subst he
        rw [mixS_full HN.out] at hO
        go_wp2_with (go_at_call 46; apply own_at hO; (repeat (first | (with_reducible exact hO) | (with_reducible apply Own.alloc) | (with_reducible apply Own.drew) | ((with_reducible apply Own.set_at); (focus (show _ ≤ _; omega))))); have hG := hF; clear hF; clear hO; intro hO; refine own_callO hO (fun hW => joinI_any HN.out (vo_all HVO.out) HN6 hW) ?_; clear hO; intro w1 hO; (try simp only [World.size_alloc1, World.size_drew, Nat.reduceAdd] at hO); (try simp only [upd, updI, List.map_cons, List.map_nil, eq_self, if_true, if_false, reduceIte, Nat.add_eq_left, Nat.left_eq_add, Nat.reduceEqDiff, List.set_cons_zero, List.set_cons_succ, hG] at hO); clear hG; have hF := hO; (try simp only [Own, Item.Holds, apartI, CellsAt, Nat.reduceAdd, Nat.zero_add, List.mem_cons, List.not_mem_nil, or_false, forall_eq_or_imp, forall_eq, ne_eq, false_imp_iff, implies_true, and_true] at hF))
        go_ret
        exact ⟨by rw [HE.out]; rfl, hO.base⟩
      · have hlt : j < n := by omega
        have hlt2 : (j : Int) < n := by omega
        obtain ⟨b, off, rfl, hc1, hc2, hb⟩ := hA (by omega)
        obtain ⟨x, hx⟩ : ∃ x, v[j]? = some x := ⟨_, List.getElem?_eq_getElem (by have := HN.out; omega)⟩
        have HX := hid hx
        have HAT := hid (mixS_at HN.out hlt)
        have HUP := hid (mixS_up (n := n) hx hlt)
        have ⟨d0, d1, d2, d3, d4, d5⟩ := noteAt (HA.out.below hO.base) hx
        clear he hx
        go_wp2_with ((go_at_call 10; apply own_at hO; (repeat (first | (with_reducible exact hO) | (with_reducible apply Own.alloc) | (with_reducible apply Own.drew) | ((with_reducible apply Own.set_at); (focus (show _ ≤ _; omega))))); have hG := hF; clear hF; clear hO; intro hO; refine own_call hO (fun hB => ntI_any x _ (HP.out.below hB)) ?_; clear hO; intro w1 hO; (try simp only [World.size_alloc1, World.size_drew, Nat.reduceAdd] at hO); (try simp only [upd, updI, List.map_cons, List.map_nil, eq_self, if_true, if_false, reduceIte, Nat.add_eq_left, Nat.left_eq_add, Nat.reduceEqDiff, List.set_cons_zero, List.set_cons_succ, hG] at hO); clear hG; have hF := hO; (try simp only [Own, Item.Holds, apartI, CellsAt, Nat.reduceAdd, Nat.zero_add, List.mem_cons, List.not_mem_nil, or_false, forall_eq_or_imp, forall_eq, ne_eq, false_imp_iff, implies_true, and_true] at hF)); have c0 := hO.2.row_cell HAT.out; have r0 := hO.2.row_free j; have hO2 := hO.2.row_set j (.string (ntB x)); rw [HUP.out] at hO2; clear hO hF)
        go_roundw
        case rel => exact ⟨j + 1, by omega, by go_num, hO2⟩
        case measure => simp [intOf]; omega
theorem vxI_C (w : World) (hp : TabP w) : CVoiceText 18 w := fun va v W hW hs hn => vxI_any va v W (hp.below hW) hs hn
end Go.Proofs.YtefbphmlhghojaaDoor
