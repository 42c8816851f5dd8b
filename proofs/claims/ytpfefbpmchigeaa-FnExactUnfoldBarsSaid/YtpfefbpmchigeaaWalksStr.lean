/- The laws' own functions over texts: their size; copies; equal ones are found equal; marks are laid and found. -/
import Derived.Test.YtpfefbpmchigeaaWalks7U
import Derived.Test.YtpfefbpmchigeaaWalksIS
import Derived.Test.YtpfefbpmchigeaaPureText
namespace Go.Proofs.Ytpfefbpmchigeaa
set_option linter.unusedSimpArgs false
set_option linter.unusedVariables false
open Go.RowKit

/-! ### A mark's text -/

theorem conv_dig (o : Int) (W : World) : (convert 61 9 (.slice (some ⟨W.heap.size, 0, none⟩) 1 1)).run Try.prog (W.alloc (.cells #[.int .u8 (48 + o)] 5)) = .ok (.string (octB o)) (W.alloc (.cells #[.int .u8 (48 + o)] 5)) :=
  run_convert_bytes_arg _ 61 5 Try.underlying61 Try.underlying5 W.heap.size 0 1 1 [48 + o] rfl (fun i hi => by
    obtain rfl : i = 0 := by omega
    simp) 9 Try.underlying9

/-- the digits of a number, in front of a text. -/
def mtD (k : Nat) (out : ByteArray) : ByteArray := if h : k = 0 then out else mtD (k / 10) (octB ((k : Int) % 10) ++ out)
termination_by k
decreasing_by omega
theorem mtD_zero (out : ByteArray) : mtD 0 out = out := by unfold mtD; rw [dif_pos rfl]
theorem mtD_pos {k : Nat} (h : 0 < k) (out : ByteArray) : mtD k out = mtD (k / 10) (octB ((k : Int) % 10) ++ out) := by rw [mtD, dif_neg (by omega)]
/-- the text of a mark. -/
def mtB (k : Int) : ByteArray := if k ≤ 0 then ⟨#[109, 48]⟩ else ⟨#[109]⟩ ++ mtD k.toNat ⟨#[]⟩

set_option maxHeartbeats 4000000 in
theorem mt_any (k : Int) (w : World) (h0 : 0 ≤ k) (h1 : k ≤ 10000000) :
    Calls Try.prog 40 #[.int .i64 k] w fun e w' => e = .returned (.string (mtB k)) ∧ Below w.heap.size w w' := by
  have hO := Own.start w
  have hF := True.intro
  by_cases hk : k ≤ 0
  · obtain rfl : k = 0 := by omega
    have HE := hid (show mtB 0 = ⟨#[109, 48]⟩ by unfold mtB; rw [if_pos (Int.le_refl 0)])
    go_enter Try.func40, Try.ntmps40
    go_wp2_with fail
    go_ret
    exact ⟨by rw [HE.out]; rfl, hO.base⟩
  · have HE := hid (show mtB k = ⟨#[109]⟩ ++ mtD k.toNat ⟨#[]⟩ by unfold mtB; rw [if_neg hk])
    obtain ⟨n, rfl⟩ : ∃ n : Nat, k = n := ⟨k.toNat, by omega⟩
    rw [Int.toNat_natCast] at HE
    go_enter Try.func40, Try.ntmps40
    go_wp2_with fail
    go_loopw [0, 3] (fun s t wr => ∃ (m j : Nat) (T : ByteArray), m ≤ 10000000 ∧ j ≤ 8 ∧ T.size + j = 8 ∧ Hid (m < 10 ^ j) ∧ s = .int .i64 m ∧ t = .string T ∧ Hid (mtB n = ⟨#[109]⟩ ++ mtD m T) ∧ Own w.heap.size (Below w.heap.size w) wr []) (fun s _ _ => (intOf s).toNat)
    case atStart => exact ⟨n, 8, ⟨#[]⟩, by omega, by omega, rfl, (show n < 10 ^ 8 by omega), rfl, rfl, HE, hO⟩
    case round =>
      clear hO hF HE
      obtain ⟨m, j, T, hm, hj, hT, HJ, rfl, rfl, HE, hO⟩ := hrel
      have hT2 : T.size ≤ 8 := by omega
      have hT3 : ((⟨#[109]⟩ : ByteArray) ++ T).size = 1 + T.size := by rw [ByteArray.size_append]; rfl
      obtain ⟨ts, hts⟩ : ∃ ts, T.size = ts := ⟨_, rfl⟩
      rw [hts] at hT hT2 hT3
      have hF := True.intro
      by_cases hz : m = 0
      · subst hz
        have HE2 := hid (show mtB n = ⟨#[109]⟩ ++ T by rw [HE.out, mtD_zero])
        go_wp2_with fail
        go_ret
        exact ⟨by rw [HE2.out]; rfl, hO.base⟩
      · have hm0 : 0 < m := by omega
        have hm1 : (0 : Int) < m := by omega
        have HE2 := hid (show mtB n = ⟨#[109]⟩ ++ mtD (m / 10) (octB ((m : Int) % 10) ++ T) by rw [HE.out, mtD_pos hm0])
        have e1 : (m : Int).tmod 10 = (m : Int) % 10 := Int.tmod_eq_emod_of_nonneg (by omega)
        have e2 : (m : Int).tdiv 10 = (m : Int) / 10 := Int.tdiv_eq_ediv_of_nonneg (by omega)
        have hcv := fun W => conv_dig ((m : Int) % 10) W
        clear hz HE
        have HJ2 := hid (show 1 ≤ j ∧ m / 10 < 10 ^ (j - 1) by
          have h := HJ.out
          cases j with
          | zero => simp at h; omega
          | succ j => exact ⟨by omega, by rw [Nat.add_sub_cancel]; exact Nat.div_lt_of_lt_mul (by rw [Nat.pow_succ] at h; omega)⟩)
        have hoz : (octB ((m : Int) % 10)).size = 1 := rfl
        have hsz : (octB ((m : Int) % 10) ++ T).size = 1 + ts := by rw [ByteArray.size_append, hts]; rfl
        have HD := hid (show (m : Int) / 10 = ((m / 10 : Nat) : Int) by omega)
        clear hT3
        go_wp2_with fail
        go_roundw
        case rel => exact ⟨m / 10, j - 1, octB ((m : Int) % 10) ++ T, by omega, by omega, by have := HJ2.out.1; omega, HJ2.out.2, by go_num, rfl, HE2.out, hO.below (below1 _)⟩
        case measure => simp [intOf]; omega

/-! ### Their size -/

/-- what is left behind texts. -/
def szU : Int → List ByteArray → Int
  | n, [] => n
  | n, s :: l => if n - (s.size : Int) < 0 then -1 else szU (n - s.size) l
def szT (n : Int) (l : List ByteArray) : Int := if n - (l.length : Int) < 0 then -1 else szU (n - l.length) l
theorem szU_sign : ∀ {l : List ByteArray} {n : Int}, 0 ≤ n → szU n l = -1 ∨ (0 ≤ szU n l ∧ szU n l ≤ n)
  | [], n, h => Or.inr ⟨h, Int.le_refl _⟩
  | s :: l, n, h => by
    simp only [szU]
    split
    · exact Or.inl rfl
    · rcases szU_sign (l := l) (n := n - s.size) (by omega) with h | h
      · exact Or.inl h
      · exact Or.inr ⟨h.1, by omega⟩
theorem szT_is {l : List ByteArray} {n z : Int} (h0 : 0 ≤ n) (h : szT n l = z) : z = -1 ∨ (0 ≤ z ∧ (l.length : Int) ≤ n) := by
  unfold szT at h
  split at h
  · exact Or.inl h.symm
  · rcases szU_sign (l := l) (n := n - l.length) (by omega) with h1 | h1
    · exact Or.inl (by rw [← h, h1])
    · exact Or.inr ⟨by rw [← h]; exact h1.1, by omega⟩
theorem StrsAt.len {w : World} {va : Value} {l : List ByteArray} (h : StrsAt w va l) : (l.length : Int) ≤ 9223372036854775807 := by
  rcases h with ⟨rfl, _⟩ | h
  · simp
  · obtain ⟨_, _, _, nb, _⟩ := h.open
    exact nb

set_option maxHeartbeats 4000000 in
theorem szT_at (va : Value) (l : List ByteArray) (n z : Int) (w : World) (h : StrsAt w va l) (hs : ∀ s ∈ l, s.size ≤ maxLen) (h0 : 0 ≤ n) (h1 : n ≤ 1000000000) (hz : szT n l = z) :
    Calls Try.prog 26 #[va, .int .i64 n] w fun e w' => e = .returned (.int .i64 z) ∧ w = w' := by
  have hl := h.len
  obtain ⟨A, c, rfl, hA⟩ := h.open
  obtain ⟨m, hm⟩ : ∃ m, l.length = m := ⟨_, rfl⟩
  have HM := hid hm
  have HSS := hid hs
  rw [hm] at hl hA
  rw [hm]
  by_cases hn : n - (m : Int) < 0
  · have HE := hid (show z = -1 by rw [← hz]; unfold szT; rw [hm, if_pos hn])
    clear hz h hA hm hs
    go_enter Try.func26, Try.ntmps26
    go_wp2
    go_ret
    exact ⟨ret_int HE.out.symm, rfl⟩
  · have HE := hid (show z = szU (n - m) l by rw [← hz]; unfold szT; rw [hm, if_neg hn])
    clear hz h hm hs
    go_enter Try.func26, Try.ntmps26
    go_wp2
    go_loop [1, 5] (fun s t => ∃ (k : Nat) (r : Int), k ≤ m ∧ t = .int .i64 k ∧ s = .int .i64 r ∧ (0 ≤ r ∧ r ≤ 1000000000) ∧ Hid (z = szU r (l.drop k))) (fun _ t => m - (intOf t).toNat)
    case atStart => exact ⟨0, n - m, by omega, rfl, rfl, by omega, HE⟩
    case round =>
      obtain ⟨k, r, hk, rfl, rfl, hr, HZ⟩ := hrel
      by_cases hend : k = m
      · subst hend
        have e1 : r = z := by rw [HZ.out, show l.drop k = [] by rw [List.drop_eq_nil_iff]; have := HM.out; omega]; rfl
        rw [e1]
        go_wp2
        go_ret
        exact ⟨rfl, rfl⟩
      · have hlt : k < m := by omega
        have hlt2 : (k : Int) < m := by omega
        obtain ⟨b', off, rfl, hc1, hc2, hb, hcell⟩ := hA (by omega)
        obtain ⟨s, hs⟩ : ∃ s, l[k]? = some s := ⟨_, List.getElem?_eq_getElem (by have := HM.out; omega)⟩
        have g0 := hcell k s hs
        have hsz := HSS.out s (List.mem_of_getElem? hs)
        unfold maxLen at hsz
        have HD := hid (show l.drop k = s :: l.drop (k + 1) by
          have hkl := (List.getElem?_eq_some_iff.1 hs).1
          rw [List.drop_eq_getElem_cons hkl]; congr 1
          rw [List.getElem?_eq_getElem hkl] at hs; exact Option.some.inj hs)
        obtain ⟨ss, hss⟩ : ∃ ss, s.size = ss := ⟨_, rfl⟩
        have HSZ := hid hss
        rw [hss] at hsz
        have w1' : IntKind.i64.wrap (r - (ss : Int)) = r - ss := IntWalk.i64_in _ (by omega)
        by_cases hneg : r - (ss : Int) < 0
        · have HE3 := hid (show z = -1 by rw [HZ.out, HD.out]; simp only [szU]; rw [hss, if_pos hneg])
          clear hend hs hcell
          go_wp2
          go_ret
          exact ⟨ret_int HE3.out.symm, rfl⟩
        · have HE3 := hid (show z = szU (r - ss) (l.drop (k + 1)) by rw [HZ.out, HD.out]; simp only [szU]; rw [hss, if_neg hneg])
          clear hend hs hcell
          go_wp2
          go_round
          case rel => exact ⟨k + 1, r - ss, by omega, by go_num, rfl, by omega, HE3⟩
          case measure => simp [intOf]; omega

/-! ### Copies; equal ones -/

set_option maxHeartbeats 4000000 in
theorem toT_at (va : Value) (l : List ByteArray) (w : World) (h : StrsAt w va l) (hn : l.length ≤ 1048576) :
    Calls Try.prog 28 #[va] w (RowOut 9 1 l.length (stC l) w) := by
  have hO := Own.start w
  have hF := True.intro
  obtain ⟨i0, hi, hz0, hz1, hz2⟩ := info_parts infoT7
  obtain ⟨A, c, rfl, hA⟩ := h.open
  obtain ⟨n, hnl⟩ : ∃ n, l.length = n := ⟨_, rfl⟩
  have HN := hid hnl
  rw [hnl] at hn hA
  rw [hnl]
  clear hnl h
  go_enter Try.func28, Try.ntmps28
  go_wp2_with (at_make; go_loud (refine wpList_make_item rfl _ _ 43 rfl 9 i0 (.string ByteArray.empty) 1 16 Try.underlying43 hi hz0 hz1 hz2 _ _ _ _ n rfl rfl rfl rfl (by omega) (by unfold maxLen; omega) (by (repeat (first | (with_reducible exact hO) | (with_reducible apply Own.alloc) | (with_reducible apply Own.drew) | ((with_reducible apply Own.set_at); (focus (show _ ≤ _; omega)))))) ?_); clear hO hF; intro q w2 hO; have hF := hO; (try simp only [Own, Item.Holds, apartI, CellsAt, Nat.reduceAdd, Nat.zero_add, List.mem_cons, List.not_mem_nil, or_false, forall_eq_or_imp, forall_eq, ne_eq, false_imp_iff, implies_true, and_true] at hF))
  rw [madeT n, show List.replicate n ByteArray.empty = mixT l 0 by rw [mixT_zero, HN.out]] at hO
  clear hF
  go_loopw [4] (fun t wr => ∃ j : Nat, j ≤ n ∧ t = .int .i64 j ∧ Own w.heap.size (Below w.heap.size w) wr [.row 9 1 (.slice (some ⟨q, 0, none⟩) n n) n (stC (mixT l j))]) (fun t _ => n - (intOf t).toNat)
  case atStart => exact ⟨0, by omega, rfl, hO⟩
  case round =>
    clear hO
    obtain ⟨j, hj, rfl, hO⟩ := hrel
    have hF := hO; (try simp only [Own, Item.Holds, apartI, CellsAt, Nat.reduceAdd, Nat.zero_add, List.mem_cons, List.not_mem_nil, or_false, forall_eq_or_imp, forall_eq, ne_eq, false_imp_iff, implies_true, and_true] at hF)
    by_cases he : j = n
    · subst he
      rw [show mixT l j = l by rw [← HN.out]; exact mixT_full l] at hO
      go_wp2_with fail
      go_ret
      exact RowOut.mk hO
    · have hlt : j < n := by omega
      have hlt2 : (j : Int) < n := by omega
      obtain ⟨b, off, rfl, hc1, hc2, hb, hcell⟩ := hA (by omega)
      obtain ⟨x, hx⟩ : ∃ x, l[j]? = some x := ⟨_, List.getElem?_eq_getElem (by have := HN.out; omega)⟩
      have g0 := ((bcell hO.base).1 b (off + j) hb).trans (hcell j x hx)
      have hm := mixT_len l (k := j) (by have := HN.out; omega)
      obtain ⟨z0, hz0'⟩ : ∃ z0, (stC (mixT l j))[j]? = some z0 := ⟨_, List.getElem?_eq_getElem (by rw [List.length_map, hm]; have := HN.out; omega)⟩
      have g2 := hO.row_cell hz0'
      have f2 := hO.row_free j
      have hO2 := hO.row_set j (.string x)
      rw [mixT_put hx] at hO2
      clear he hj hx hcell hm hz0' hO hF
      go_wp2_with fail
      go_roundw
      case rel => exact ⟨j + 1, by omega, by go_num, hO2⟩
      case measure => simp [intOf]; omega

theorem stC_at {l : List ByteArray} {j : Nat} {x : ByteArray} (h : l[j]? = some x) : (stC l)[j]? = some (.string x) := by rw [List.getElem?_map, h]; rfl

set_option maxHeartbeats 4000000 in
theorem eqT_same (va vb : Value) (l : List ByteArray) (w : World) (ha : SlAt w va l.length 1 (stC l)) (hb : SlAt w vb l.length 1 (stC l)) :
    Calls Try.prog 30 #[va, vb] w fun e w' => e = .returned (.bool true) ∧ Below w.heap.size w w' := by
  have hO := Own.start w
  have hF := True.intro
  obtain ⟨A, c, rfl, nb, hA⟩ := ha.open
  obtain ⟨A', c', rfl, nb', hA'⟩ := hb.open
  have HA := hid (And.intro ha hb)
  clear ha hb
  obtain ⟨n, hnl⟩ : ∃ n, l.length = n := ⟨_, rfl⟩
  have HN := hid hnl
  rw [hnl] at nb hA nb' hA' HA
  rw [hnl]
  clear hnl
  go_enter Try.func30, Try.ntmps30
  go_wp2
  go_loopw [5] (fun t wr => ∃ j : Nat, j ≤ n ∧ t = .int .i64 j ∧ Own w.heap.size (Below w.heap.size w) wr []) (fun t _ => n - (intOf t).toNat)
  case atStart => exact ⟨0, by omega, rfl, hO⟩
  case round =>
    clear hO
    obtain ⟨j, hj, rfl, hO⟩ := hrel
    by_cases he : j = n
    · subst he
      go_wp2
      go_ret
      exact ⟨rfl, hO.base⟩
    · have hlt : j < n := by omega
      have hlt2 : (j : Int) < n := by omega
      obtain ⟨b, off, rfl, hc1, hc2, hb⟩ := hA (by omega)
      obtain ⟨b', off', rfl, hc1', hc2', hb'⟩ := hA' (by omega)
      obtain ⟨x, hx⟩ : ∃ x, l[j]? = some x := ⟨_, List.getElem?_eq_getElem (by have := HN.out; omega)⟩
      have HX := hid (stC_at hx)
      clear he hx
      go_wp2
      apply own_code hO
      (repeat (first | (with_reducible exact hO) | (with_reducible apply Own.alloc) | (with_reducible apply Own.drew) | ((with_reducible apply Own.set_at); (focus (show _ ≤ _; omega)))))
      have hG := hF; clear hF; clear hO; intro hO
      (try simp only [World.size_alloc1, World.size_drew, Nat.reduceAdd] at hO); (try simp only [upd, updI, List.map_cons, List.map_nil, eq_self, if_true, if_false, reduceIte, Nat.add_eq_left, Nat.left_eq_add, Nat.reduceEqDiff, List.set_cons_zero, List.set_cons_succ, hG] at hO); clear hG
      refine region_own (X := fun _ => True) [] (by kernel_rfl) (hO) (trivial) (by first | exact XStab.true | exact XStab.rd | exact XStab.rdIf) ?_
      clear hO
      refine Sim.takeP (i := 0) (d := some 17) (v := ?_) rfl rfl (by kernel_rfl) (by kernel_rfl) (by kernel_rfl) (fun _ _ _ h => h) (by first | exact XStab.true | exact XStab.rd | exact XStab.rdIf) ?_ ?_
      rotate_left
      · first | refine Or.inl ⟨by rfl, fun w => ?_⟩ | (refine Or.inr ⟨by rfl, ?_⟩; with_reducible rfl)
        first | done | (go_simp; all_goals with_reducible rfl)
      try simp only [Act.put, List.setIfInBounds_toArray, List.set_cons_zero, List.set_cons_succ]
      refine Sim.takeP (i := 1) (d := some 18) (v := ?_) rfl rfl (by kernel_rfl) (by kernel_rfl) (by kernel_rfl) (fun _ _ _ h => h) (by first | exact XStab.true | exact XStab.rd | exact XStab.rdIf) ?_ ?_
      rotate_left
      · first | refine Or.inl ⟨by rfl, fun w => ?_⟩ | (refine Or.inr ⟨by rfl, ?_⟩; with_reducible rfl)
        first | done | (go_simp; all_goals with_reducible rfl)
      try simp only [Act.put, List.setIfInBounds_toArray, List.set_cons_zero, List.set_cons_succ]
      refine Sim.takeP (i := 2) (d := some 19) (v := ?_) rfl rfl (by kernel_rfl) (by kernel_rfl) (by kernel_rfl) (fun _ _ _ h => h) (by first | exact XStab.true | exact XStab.rd | exact XStab.rdIf) ?_ ?_
      rotate_left
      · first | refine Or.inl ⟨by rfl, fun w => ?_⟩ | (refine Or.inr ⟨by rfl, ?_⟩; with_reducible rfl)
        first | done | (go_simp; all_goals with_reducible rfl)
      try simp only [Act.put, List.setIfInBounds_toArray, List.set_cons_zero, List.set_cons_succ]
      refine Sim.take (i := 3) (d := some 20) (v := ?_) rfl rfl (by kernel_rfl) (by kernel_rfl) (by kernel_rfl) (by kernel_rfl) (fun _ _ _ h => h) (by first | exact XStab.true | exact XStab.rd | exact XStab.rdIf) ?_ ?_
      rotate_left
      · first | refine Or.inl ⟨by rfl, fun w hO => ?_⟩ | (refine Or.inr ⟨by rfl, ?_⟩; with_reducible rfl)
        first | done | (have hF := hO; (try simp only [Own, Item.Holds, apartI, CellsAt, Nat.reduceAdd, Nat.zero_add, List.mem_cons, List.not_mem_nil, or_false, forall_eq_or_imp, forall_eq, ne_eq, false_imp_iff, implies_true, and_true] at hF); ((have d0 := (HA.out.1.below hO.base).cellAt HX.out; have g0 := (HA.out.2.below hO.base).cellAt HX.out)); refine Out.same ?_; go_simp; all_goals with_reducible rfl)
      try simp only [Act.put, List.setIfInBounds_toArray, List.set_cons_zero, List.set_cons_succ]
      refine Sim.takeP (i := 4) (d := some 21) (v := ?_) rfl rfl (by kernel_rfl) (by kernel_rfl) (by kernel_rfl) (fun _ _ _ h => h) (by first | exact XStab.true | exact XStab.rd | exact XStab.rdIf) ?_ ?_
      rotate_left
      · first | refine Or.inl ⟨by rfl, fun w => ?_⟩ | (refine Or.inr ⟨by rfl, ?_⟩; with_reducible rfl)
        first | done | (go_simp; all_goals with_reducible rfl)
      try simp only [Act.put, List.setIfInBounds_toArray, List.set_cons_zero, List.set_cons_succ]
      refine Sim.takeP (i := 5) (d := some 22) (v := ?_) rfl rfl (by kernel_rfl) (by kernel_rfl) (by kernel_rfl) (fun _ _ _ h => h) (by first | exact XStab.true | exact XStab.rd | exact XStab.rdIf) ?_ ?_
      rotate_left
      · first | refine Or.inl ⟨by rfl, fun w => ?_⟩ | (refine Or.inr ⟨by rfl, ?_⟩; with_reducible rfl)
        first | done | (go_simp; all_goals with_reducible rfl)
      try simp only [Act.put, List.setIfInBounds_toArray, List.set_cons_zero, List.set_cons_succ]
      refine Sim.takeP (i := 6) (d := some 23) (v := ?_) rfl rfl (by kernel_rfl) (by kernel_rfl) (by kernel_rfl) (fun _ _ _ h => h) (by first | exact XStab.true | exact XStab.rd | exact XStab.rdIf) ?_ ?_
      rotate_left
      · first | refine Or.inl ⟨by rfl, fun w => ?_⟩ | (refine Or.inr ⟨by rfl, ?_⟩; with_reducible rfl)
        first | done | (go_simp; all_goals with_reducible rfl)
      try simp only [Act.put, List.setIfInBounds_toArray, List.set_cons_zero, List.set_cons_succ]
      refine Sim.take (i := 7) (d := some 24) (v := ?_) rfl rfl (by kernel_rfl) (by kernel_rfl) (by kernel_rfl) (by kernel_rfl) (fun _ _ _ h => h) (by first | exact XStab.true | exact XStab.rd | exact XStab.rdIf) ?_ ?_
      rotate_left
      · first | refine Or.inl ⟨by rfl, fun w hO => ?_⟩ | (refine Or.inr ⟨by rfl, ?_⟩; with_reducible rfl)
        first | done | (have hF := hO; (try simp only [Own, Item.Holds, apartI, CellsAt, Nat.reduceAdd, Nat.zero_add, List.mem_cons, List.not_mem_nil, or_false, forall_eq_or_imp, forall_eq, ne_eq, false_imp_iff, implies_true, and_true] at hF); ((have d0 := (HA.out.1.below hO.base).cellAt HX.out; have g0 := (HA.out.2.below hO.base).cellAt HX.out)); refine Out.same ?_; go_simp; all_goals with_reducible rfl)
      try simp only [Act.put, List.setIfInBounds_toArray, List.set_cons_zero, List.set_cons_succ]
      refine Sim.takeP (i := 8) (d := some 25) (v := ?_) rfl rfl (by kernel_rfl) (by kernel_rfl) (by kernel_rfl) (fun _ _ _ h => h) (by first | exact XStab.true | exact XStab.rd | exact XStab.rdIf) ?_ ?_
      rotate_left
      · first | refine Or.inl ⟨by rfl, fun w => ?_⟩ | (refine Or.inr ⟨by rfl, ?_⟩; with_reducible rfl)
        first | done | (go_simp; all_goals with_reducible rfl)
      try simp only [Act.put, List.setIfInBounds_toArray, List.set_cons_zero, List.set_cons_succ]
      refine Sim.done (by kernel_rfl) (fun w1 hO hX => ?_) _
      (try simp only [World.size_alloc1, World.size_drew, Nat.reduceAdd] at hO); (try simp only [upd, updI, List.map_cons, List.map_nil, eq_self, if_true, if_false, reduceIte, Nat.add_eq_left, Nat.left_eq_add, Nat.reduceEqDiff, List.set_cons_zero, List.set_cons_succ] at hO)
      have hF := hO; (try simp only [Own, Item.Holds, apartI, CellsAt, Nat.reduceAdd, Nat.zero_add, List.mem_cons, List.not_mem_nil, or_false, forall_eq_or_imp, forall_eq, ne_eq, false_imp_iff, implies_true, and_true] at hF)
      go_wp2
      go_roundw
      case rel => exact ⟨j + 1, by omega, by go_num, hO⟩
      case measure => simp [intOf]; omega

/-! ### Marks -/

/-- n texts that bear the marks from k on. -/
def mkT (k0 : Int) (n : Nat) : List ByteArray := (List.range n).map fun (j : Nat) => mtB (k0 + (j : Int))
theorem mkT_len (k0 : Int) (n : Nat) : (mkT k0 n).length = n := by simp [mkT]
theorem mkT_at {k0 : Int} {n j : Nat} (h : j < n) : (mkT k0 n)[j]? = some (mtB (k0 + (j : Int))) := by simp [mkT, h]
theorem mkT_up (k0 : Int) (n : Nat) : mkT k0 (n + 1) = mkT k0 n ++ [mtB (k0 + (n : Int))] := by simp [mkT, List.range_succ]
/-- The first j of them bear marks. -/
def mixK (k0 : Int) (xs : List Value) (j : Nat) : List Value := stC (mkT k0 j) ++ xs.drop j
theorem mixK_len (k0 : Int) (xs : List Value) {j : Nat} (h : j ≤ xs.length) : (mixK k0 xs j).length = xs.length := by simp [mixK, mkT_len]; omega
theorem mixK_full (k0 : Int) (xs : List Value) : mixK k0 xs xs.length = stC (mkT k0 xs.length) := by simp [mixK]
theorem mixK_put {k0 : Int} {xs : List Value} {j : Nat} (h : j < xs.length) : (mixK k0 xs j).set j (.string (mtB (k0 + (j : Int)))) = mixK k0 xs (j + 1) := by
  unfold mixK
  have hl : (stC (mkT k0 j)).length = j := by rw [List.length_map, mkT_len]
  rw [List.set_append, if_neg (by omega), hl, Nat.sub_self, List.drop_eq_getElem_cons h, List.set_cons_zero, mkT_up]
  simp [stC]

set_option maxHeartbeats 4000000 in
theorem markT_own {n : Nat} {B : World → Prop} {L : List Item} (va : Value) (k : Nat) (xs : List Value) (k0 : Int) (w : World) (hO : Own n B w (.row 9 1 va k xs :: L)) (h0 : 0 ≤ k0) (h1 : k0 ≤ 5000000) (hk : k ≤ 1048576) :
    Calls Try.prog 31 #[va, .int .i64 k0] w fun e w' => e = .returned (.int .i64 (k0 + (k : Int))) ∧ Own n B w' (.row 9 1 va k (stC (mkT k0 k)) :: L) := by
  have hxl : xs.length = k := by have := hO.1.1.1; simpa using this
  obtain ⟨A, c, rfl⟩ := (SlAt.of_row hO.1.1).form
  have HXL := hid hxl
  have hF := True.intro
  clear hxl
  go_enter Try.func31, Try.ntmps31
  go_wp2_with fail
  go_loopw [1, 5] (fun s t wr => ∃ j : Nat, j ≤ k ∧ t = .int .i64 j ∧ s = .int .i64 (k0 + (j : Int)) ∧ Own n B wr (.row 9 1 (.slice A k c) k (mixK k0 xs j) :: L)) (fun _ t _ => k - (intOf t).toNat)
  case atStart => exact ⟨0, by omega, rfl, by simp, hO⟩
  case round =>
    clear hO
    obtain ⟨j, hj, rfl, rfl, hO⟩ := hrel
    by_cases he : j = k
    · subst he
      rw [show mixK k0 xs j = stC (mkT k0 j) by have := mixK_full k0 xs; rwa [HXL.out] at this] at hO
      go_wp2_with fail
      go_ret
      exact ⟨rfl, hO⟩
    · have hlt : j < k := by omega
      have hlt2 : (j : Int) < k := by omega
      obtain ⟨q, cp, hq, q1, q2⟩ := hO.row_open (by omega)
      cases hq
      unfold maxLen at q2
      have hml := mixK_len k0 xs (j := j) (by have := HXL.out; omega)
      obtain ⟨z, hz⟩ : ∃ z, (mixK k0 xs j)[j]? = some z := ⟨_, List.getElem?_eq_getElem (by have := HXL.out; omega)⟩
      have HP := hid (mixK_put (k0 := k0) (xs := xs) (j := j) (by have := HXL.out; omega))
      obtain ⟨p, hp⟩ : ∃ p, k0 + (j : Int) = p := ⟨_, rfl⟩
      have p0 : 0 ≤ p ∧ p ≤ 10000000 := by omega
      have HM := hid (fun W => mt_any p W p0.1 p0.2)
      have HQ := hid hp
      rw [hp] at HP
      rw [hp]
      obtain ⟨t, ht⟩ : ∃ t, mtB p = t := ⟨_, rfl⟩
      rw [ht] at HM HP
      have HZ := hid hz
      clear he hj hml hz hp ht
      go_wp2_with (go_at_call 40; refine own_call hO (fun hB => HM.out _) ?_; clear hO; intro w1 hO; have c0 := hO.row_cell HZ.out; have f0 := hO.row_free j; have hO2 := hO.row_set j (.string t); rw [HP.out] at hO2; clear hO)
      go_roundw
      case rel => exact ⟨j + 1, by omega, by go_num, by have := HQ.out; congr 1; push_cast; omega, hO2⟩
      case measure => simp [intOf]; omega

set_option maxHeartbeats 4000000 in
theorem heldT_mk (va : Value) (k : Nat) (k0 : Int) (w : World) (ha : SlAt w va k 1 (stC (mkT k0 k))) (h0 : 0 ≤ k0) (h1 : k0 ≤ 5000000) (hk : k ≤ 1048576) :
    Calls Try.prog 32 #[va, .int .i64 k0] w fun e w' => e = .returned (.int .i64 (k0 + (k : Int))) ∧ Below w.heap.size w w' := by
  have hO := Own.start w
  have hF := True.intro
  obtain ⟨A, c, rfl, nb, hA⟩ := ha.open
  have HA := hid ha
  clear ha
  go_enter Try.func32, Try.ntmps32
  go_wp2
  go_loopw [1, 5] (fun s t wr => ∃ j : Nat, j ≤ k ∧ t = .int .i64 j ∧ s = .int .i64 (k0 + (j : Int)) ∧ Own w.heap.size (Below w.heap.size w) wr []) (fun _ t _ => k - (intOf t).toNat)
  case atStart => exact ⟨0, by omega, rfl, by simp, hO⟩
  case round =>
    clear hO
    obtain ⟨j, hj, rfl, rfl, hO⟩ := hrel
    by_cases he : j = k
    · subst he
      go_wp2
      go_ret
      exact ⟨rfl, hO.base⟩
    · have hlt : j < k := by omega
      have hlt2 : (j : Int) < k := by omega
      obtain ⟨b, off, rfl, hc1, hc2, hb⟩ := hA (by omega)
      have hx := stC_at (mkT_at (k0 := k0) hlt)
      obtain ⟨p, hp⟩ : ∃ p, k0 + (j : Int) = p := ⟨_, rfl⟩
      have p0 : 0 ≤ p ∧ p ≤ 10000000 := by omega
      have HM := hid (fun W => mt_any p W p0.1 p0.2)
      have HQ := hid hp
      rw [hp] at hx
      rw [hp]
      obtain ⟨t, ht⟩ : ∃ t, mtB p = t := ⟨_, rfl⟩
      rw [ht] at HM hx
      have HX := hid hx
      clear he hx hp ht
      go_wp2
      apply own_code hO
      (repeat (first | (with_reducible exact hO) | (with_reducible apply Own.alloc) | (with_reducible apply Own.drew) | ((with_reducible apply Own.set_at); (focus (show _ ≤ _; omega)))))
      have hG := hF; clear hF; clear hO; intro hO
      (try simp only [World.size_alloc1, World.size_drew, Nat.reduceAdd] at hO); (try simp only [upd, updI, List.map_cons, List.map_nil, eq_self, if_true, if_false, reduceIte, Nat.add_eq_left, Nat.left_eq_add, Nat.reduceEqDiff, List.set_cons_zero, List.set_cons_succ, hG] at hO); clear hG
      refine region_own (X := fun _ => True) [] (by kernel_rfl) (hO) (trivial) (by first | exact XStab.true | exact XStab.rd | exact XStab.rdIf) ?_
      clear hO
      refine Sim.takeP (i := 0) (d := some 12) (v := ?_) rfl rfl (by kernel_rfl) (by kernel_rfl) (by kernel_rfl) (fun _ _ _ h => h) (by first | exact XStab.true | exact XStab.rd | exact XStab.rdIf) ?_ ?_
      rotate_left
      · first | refine Or.inl ⟨by rfl, fun w => ?_⟩ | (refine Or.inr ⟨by rfl, ?_⟩; with_reducible rfl)
        first | done | (go_simp; all_goals with_reducible rfl)
      try simp only [Act.put, List.setIfInBounds_toArray, List.set_cons_zero, List.set_cons_succ]
      refine Sim.takeP (i := 1) (d := some 13) (v := ?_) rfl rfl (by kernel_rfl) (by kernel_rfl) (by kernel_rfl) (fun _ _ _ h => h) (by first | exact XStab.true | exact XStab.rd | exact XStab.rdIf) ?_ ?_
      rotate_left
      · first | refine Or.inl ⟨by rfl, fun w => ?_⟩ | (refine Or.inr ⟨by rfl, ?_⟩; with_reducible rfl)
        first | done | (go_simp; all_goals with_reducible rfl)
      try simp only [Act.put, List.setIfInBounds_toArray, List.set_cons_zero, List.set_cons_succ]
      refine Sim.takeP (i := 2) (d := some 14) (v := ?_) rfl rfl (by kernel_rfl) (by kernel_rfl) (by kernel_rfl) (fun _ _ _ h => h) (by first | exact XStab.true | exact XStab.rd | exact XStab.rdIf) ?_ ?_
      rotate_left
      · first | refine Or.inl ⟨by rfl, fun w => ?_⟩ | (refine Or.inr ⟨by rfl, ?_⟩; with_reducible rfl)
        first | done | (go_simp; all_goals with_reducible rfl)
      try simp only [Act.put, List.setIfInBounds_toArray, List.set_cons_zero, List.set_cons_succ]
      refine Sim.take (i := 3) (d := some 15) (v := ?_) rfl rfl (by kernel_rfl) (by kernel_rfl) (by kernel_rfl) (by kernel_rfl) (fun _ _ _ h => h) (by first | exact XStab.true | exact XStab.rd | exact XStab.rdIf) ?_ ?_
      rotate_left
      · first | refine Or.inl ⟨by rfl, fun w hO => ?_⟩ | (refine Or.inr ⟨by rfl, ?_⟩; with_reducible rfl)
        first | done | (have hF := hO; (try simp only [Own, Item.Holds, apartI, CellsAt, Nat.reduceAdd, Nat.zero_add, List.mem_cons, List.not_mem_nil, or_false, forall_eq_or_imp, forall_eq, ne_eq, false_imp_iff, implies_true, and_true] at hF); ((have d0 := (HA.out.below hO.base).cellAt HX.out)); refine Out.same ?_; go_simp; all_goals with_reducible rfl)
      try simp only [Act.put, List.setIfInBounds_toArray, List.set_cons_zero, List.set_cons_succ]
      refine Sim.takeP (i := 4) (d := some 16) (v := ?_) rfl rfl (by kernel_rfl) (by kernel_rfl) (by kernel_rfl) (fun _ _ _ h => h) (by first | exact XStab.true | exact XStab.rd | exact XStab.rdIf) ?_ ?_
      rotate_left
      · first | refine Or.inl ⟨by rfl, fun w => ?_⟩ | (refine Or.inr ⟨by rfl, ?_⟩; with_reducible rfl)
        first | done | (go_simp; all_goals with_reducible rfl)
      try simp only [Act.put, List.setIfInBounds_toArray, List.set_cons_zero, List.set_cons_succ]
      refine Sim.take (i := 5) (d := some 17) (v := ?_) rfl rfl (by kernel_rfl) (by kernel_rfl) (by kernel_rfl) (by kernel_rfl) (fun _ _ _ h => h) (by first | exact XStab.true | exact XStab.rd | exact XStab.rdIf) ?_ ?_
      rotate_left
      · first | refine Or.inl ⟨by rfl, fun w hO => ?_⟩ | (refine Or.inr ⟨by rfl, ?_⟩; with_reducible rfl)
        first | done | (refine Out.call (f := 40) (args := ?_) ?_ ?_; rotate_left; (focus (go_simp; all_goals with_reducible rfl)); exact HM.out _)
      try simp only [Act.put, List.setIfInBounds_toArray, List.set_cons_zero, List.set_cons_succ]
      refine Sim.takeP (i := 6) (d := some 18) (v := ?_) rfl rfl (by kernel_rfl) (by kernel_rfl) (by kernel_rfl) (fun _ _ _ h => h) (by first | exact XStab.true | exact XStab.rd | exact XStab.rdIf) ?_ ?_
      rotate_left
      · first | refine Or.inl ⟨by rfl, fun w => ?_⟩ | (refine Or.inr ⟨by rfl, ?_⟩; with_reducible rfl)
        first | done | (go_simp; all_goals with_reducible rfl)
      try simp only [Act.put, List.setIfInBounds_toArray, List.set_cons_zero, List.set_cons_succ]
      refine Sim.done (by kernel_rfl) (fun w1 hO hX => ?_) _
      (try simp only [World.size_alloc1, World.size_drew, Nat.reduceAdd] at hO); (try simp only [upd, updI, List.map_cons, List.map_nil, eq_self, if_true, if_false, reduceIte, Nat.add_eq_left, Nat.left_eq_add, Nat.reduceEqDiff, List.set_cons_zero, List.set_cons_succ] at hO)
      have hF := hO; (try simp only [Own, Item.Holds, apartI, CellsAt, Nat.reduceAdd, Nat.zero_add, List.mem_cons, List.not_mem_nil, or_false, forall_eq_or_imp, forall_eq, ne_eq, false_imp_iff, implies_true, and_true] at hF)
      go_wp2
      go_roundw
      case rel => exact ⟨j + 1, by omega, by go_num, by have := HQ.out; congr 1; push_cast; omega, hO⟩
      case measure => simp [intOf]; omega
end Go.Proofs.Ytpfefbpmchigeaa
