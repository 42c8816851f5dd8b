/- Chapter 15 in the program: the pitches of a key within bounds; the library's functions that repeat and join slices. -/
import Derived.Test.YtieoobanpllmgaaDoorPure15P
import Derived.Test.YtieoobanpllmgaaDoorWalks14G
import Derived.Test.YtieoobanpllmgaaDoorWalksKr
import Derived.Lib.AppendZeros
import Derived.Test.YtieoobanpllmgaaDoorStks
import Derived.Test.YtieoobanpllmgaaDoorRegionD
namespace Go.Proofs.YtieoobanpllmgaaDoor
set_option linter.unusedSimpArgs false
set_option linter.unusedVariables false
set_option maxRecDepth 8000
open Go.RowKit Go.Joins

theorem kpI15 {f : Int} {p : Nat} {x : Pt} {w : World} (hA : TabA w) (hf : keyB f = true) (hp : p < 63) (hx : tnP f p = x) (W : World) (hW : Below w.heap.size w W) :
    Calls Tryd.prog 69 #[.int .i64 f, .int .i64 (p : Int)] W fun e w' => e = .returned (.agg #[.int .i64 x.s, .int .i64 x.a, .int .i64 x.o]) ∧ Below W.heap.size W w' := by
  subst hx
  exact kpI_any f p W (hA.below hW) hf (by omega) (by omega)

set_option maxRecDepth 20000 in
set_option maxHeartbeats 8000000 in
theorem pbI_any (f lo hi : Int) (w : World) (hf : keyB f = true) (hT : TabH w) (hA : TabA w) :
    Calls Tryd.prog 51 #[.int .i64 f, .int .i64 lo, .int .i64 hi] w (RowOut 37 3 (pbL f lo hi 63).length (pcC (pbL f lo hi 63)) w) := by
  have hO := Own.start w
  have hF := True.intro
  obtain ⟨i0, hi0, hz0, hz1, hz2⟩ := info_parts infoPi
  have HT := hid hT
  have HA := hid hA
  have HNL := hid (fun m => pbL_len f lo hi m)
  clear hT hA
  go_enter Tryd.func51, Tryd.ntmps51
  go_wp2_with fail
  go_loopw [7, 11] (fun u t wr => ∃ k : Nat, k ≤ 63 ∧ t = .int .i64 k ∧ Own w.heap.size (Below w.heap.size w) wr [.row 37 3 u (pbL f lo hi k).length (pcC (pbL f lo hi k))]) (fun _ t _ => 63 - (intOf t).toNat)
  case atStart => exact ⟨0, by omega, rfl, Own.nilRow 37 3 hO⟩
  case round =>
    clear hO hF
    obtain ⟨k, hk, rfl, hO⟩ := hrel
    have hnl := HNL.out k
    have hF := hO; (try simp only [Own, Item.Holds, apartI, CellsAt, Nat.reduceAdd, Nat.zero_add, List.mem_cons, List.not_mem_nil, or_false, forall_eq_or_imp, forall_eq, ne_eq, false_imp_iff, implies_true, and_true] at hF)
    by_cases he : k = 63
    · subst he
      go_wp2_with fail
      go_ret
      exact RowOut.mk hO
    · have hkr : k < 63 := by omega
      have hkr2 : (k : Int) < 63 := by omega
      obtain ⟨x, hx⟩ : ∃ x, tnP f k = x := ⟨_, rfl⟩
      obtain ⟨z, hz⟩ : ∃ z, kyP x = z := ⟨_, rfl⟩
      have HUK := hid (pbL_up f lo hi k)
      obtain ⟨L1, hL1⟩ : ∃ L, pbL f lo hi k = L := ⟨_, rfl⟩
      have HIN := hid (show inKy lo hi x = (decide (lo ≤ z) && decide (z ≤ hi)) by unfold inKy; rw [hz])
      have HKP := hid (fun W (hW : Below w.heap.size w W) => kpI15 HA.out hf hkr hx W hW)
      have HKY := hid (fun W (hW : Below w.heap.size w W) => keyI14 hz W (HT.out.below hW))
      rw [hx] at HUK
      rw [hL1] at hO hnl HUK
      obtain ⟨n1, hn1⟩ : ∃ n, L1.length = n := ⟨_, rfl⟩
      have HN1 := hid hn1
      rw [hn1] at hO hnl
      clear he hL1 hn1 hx hz
      by_cases h1 : lo ≤ z
      · by_cases h2 : z ≤ hi
        · have HN := hid (show L1 ++ [x] = pbL f lo hi (k + 1) ∧ n1 + 1 = (pbL f lo hi (k + 1)).length by
            rw [HUK.out, if_pos (by rw [HIN.out]; simp [h1, h2]), List.length_append, HN1.out]; exact ⟨rfl, rfl⟩)
          go_wp2_with (first | (go_at_call 69; apply own_at hO; (repeat (first | (with_reducible exact hO) | (with_reducible apply Own.alloc) | (with_reducible apply Own.drew) | ((with_reducible apply Own.set_at); (focus (show _ ≤ _; omega))))); have hG := hF; clear hF; clear hO; intro hO; refine own_call hO (fun hB => HKP.out _ hB) ?_; clear hO; intro w1 hO; (try simp only [World.size_alloc1, World.size_drew, Nat.reduceAdd] at hO); (try simp only [upd, updI, List.map_cons, List.map_nil, eq_self, if_true, if_false, reduceIte, Nat.add_eq_left, Nat.left_eq_add, Nat.reduceEqDiff, List.set_cons_zero, List.set_cons_succ, hG] at hO); clear hG; have hF := hO; (try simp only [Own, Item.Holds, apartI, CellsAt, Nat.reduceAdd, Nat.zero_add, List.mem_cons, List.not_mem_nil, or_false, forall_eq_or_imp, forall_eq, ne_eq, false_imp_iff, implies_true, and_true] at hF)) | (go_at_call 19; apply own_at hO; (repeat (first | (with_reducible exact hO) | (with_reducible apply Own.alloc) | (with_reducible apply Own.drew) | ((with_reducible apply Own.set_at); (focus (show _ ≤ _; omega))))); have hG := hF; clear hF; clear hO; intro hO; refine own_call hO (fun hB => HKY.out _ hB) ?_; clear hO; intro w1 hO; (try simp only [World.size_alloc1, World.size_drew, Nat.reduceAdd] at hO); (try simp only [upd, updI, List.map_cons, List.map_nil, eq_self, if_true, if_false, reduceIte, Nat.add_eq_left, Nat.left_eq_add, Nat.reduceEqDiff, List.set_cons_zero, List.set_cons_succ, hG] at hO); clear hG; have hF := hO; (try simp only [Own, Item.Holds, apartI, CellsAt, Nat.reduceAdd, Nat.zero_add, List.mem_cons, List.not_mem_nil, or_false, forall_eq_or_imp, forall_eq, ne_eq, false_imp_iff, implies_true, and_true] at hF)) | (at_builtin; apply own_list hO; (repeat (first | (with_reducible exact hO) | (with_reducible apply Own.alloc) | (with_reducible apply Own.drew) | ((with_reducible apply Own.set_at); (focus (show _ ≤ _; omega))))); have hG := hF; clear hF; clear hO; intro hO; (try simp only [World.size_alloc1, World.size_drew, Nat.reduceAdd] at hO); (try simp only [upd, updI, List.map_cons, List.map_nil, eq_self, if_true, if_false, reduceIte, Nat.add_eq_left, Nat.left_eq_add, Nat.reduceEqDiff, List.set_cons_zero, List.set_cons_succ, hG] at hO); clear hG; (try simp only [World.size_setCell] at hO); have hF := hO; (try simp only [Own, Item.Holds, apartI, CellsAt, Nat.reduceAdd, Nat.zero_add, List.mem_cons, List.not_mem_nil, or_false, forall_eq_or_imp, forall_eq, ne_eq, false_imp_iff, implies_true, and_true] at hF); replace hO := Own.sub (.cons_cons _ (.cons _ (List.Sublist.refl _))) hO; refine wpList_append_item rfl _ _ 23 rfl 37 i0 (.agg #[.int .i64 0, .int .i64 0, .int .i64 0]) 3 24 Tryd.underlying23 hi0 hz0 hz1 hz2 rfl (by decide) rfl rfl hO rfl one3t (by unfold maxLen; omega) (by omega) ?_; clear hO hF; intro v' w2 hO _; have hF := True.intro))
          go_roundw
          case rel => exact ⟨k + 1, by omega, by go_num, by rw [← HN.out.2, ← HN.out.1, ← pcC_snoc]; exact hO⟩
          case measure => simp [intOf]; omega
        · have HN := hid (show L1 = pbL f lo hi (k + 1) ∧ n1 = (pbL f lo hi (k + 1)).length by
            rw [HUK.out, if_neg (by rw [HIN.out]; simp [h2]), List.append_nil]; exact ⟨rfl, HN1.out.symm⟩)
          go_wp2_with (first | (go_at_call 69; apply own_at hO; (repeat (first | (with_reducible exact hO) | (with_reducible apply Own.alloc) | (with_reducible apply Own.drew) | ((with_reducible apply Own.set_at); (focus (show _ ≤ _; omega))))); have hG := hF; clear hF; clear hO; intro hO; refine own_call hO (fun hB => HKP.out _ hB) ?_; clear hO; intro w1 hO; (try simp only [World.size_alloc1, World.size_drew, Nat.reduceAdd] at hO); (try simp only [upd, updI, List.map_cons, List.map_nil, eq_self, if_true, if_false, reduceIte, Nat.add_eq_left, Nat.left_eq_add, Nat.reduceEqDiff, List.set_cons_zero, List.set_cons_succ, hG] at hO); clear hG; have hF := hO; (try simp only [Own, Item.Holds, apartI, CellsAt, Nat.reduceAdd, Nat.zero_add, List.mem_cons, List.not_mem_nil, or_false, forall_eq_or_imp, forall_eq, ne_eq, false_imp_iff, implies_true, and_true] at hF)) | (go_at_call 19; apply own_at hO; (repeat (first | (with_reducible exact hO) | (with_reducible apply Own.alloc) | (with_reducible apply Own.drew) | ((with_reducible apply Own.set_at); (focus (show _ ≤ _; omega))))); have hG := hF; clear hF; clear hO; intro hO; refine own_call hO (fun hB => HKY.out _ hB) ?_; clear hO; intro w1 hO; (try simp only [World.size_alloc1, World.size_drew, Nat.reduceAdd] at hO); (try simp only [upd, updI, List.map_cons, List.map_nil, eq_self, if_true, if_false, reduceIte, Nat.add_eq_left, Nat.left_eq_add, Nat.reduceEqDiff, List.set_cons_zero, List.set_cons_succ, hG] at hO); clear hG; have hF := hO; (try simp only [Own, Item.Holds, apartI, CellsAt, Nat.reduceAdd, Nat.zero_add, List.mem_cons, List.not_mem_nil, or_false, forall_eq_or_imp, forall_eq, ne_eq, false_imp_iff, implies_true, and_true] at hF)))
          go_roundw
          case rel => exact ⟨k + 1, by omega, by go_num, by rw [← HN.out.2, ← HN.out.1]; exact Own.drop hO⟩
          case measure => simp [intOf]; omega
      · have HN := hid (show L1 = pbL f lo hi (k + 1) ∧ n1 = (pbL f lo hi (k + 1)).length by
          rw [HUK.out, if_neg (by rw [HIN.out]; simp [h1]), List.append_nil]; exact ⟨rfl, HN1.out.symm⟩)
        go_wp2_with (first | (go_at_call 69; apply own_at hO; (repeat (first | (with_reducible exact hO) | (with_reducible apply Own.alloc) | (with_reducible apply Own.drew) | ((with_reducible apply Own.set_at); (focus (show _ ≤ _; omega))))); have hG := hF; clear hF; clear hO; intro hO; refine own_call hO (fun hB => HKP.out _ hB) ?_; clear hO; intro w1 hO; (try simp only [World.size_alloc1, World.size_drew, Nat.reduceAdd] at hO); (try simp only [upd, updI, List.map_cons, List.map_nil, eq_self, if_true, if_false, reduceIte, Nat.add_eq_left, Nat.left_eq_add, Nat.reduceEqDiff, List.set_cons_zero, List.set_cons_succ, hG] at hO); clear hG; have hF := hO; (try simp only [Own, Item.Holds, apartI, CellsAt, Nat.reduceAdd, Nat.zero_add, List.mem_cons, List.not_mem_nil, or_false, forall_eq_or_imp, forall_eq, ne_eq, false_imp_iff, implies_true, and_true] at hF)) | (go_at_call 19; apply own_at hO; (repeat (first | (with_reducible exact hO) | (with_reducible apply Own.alloc) | (with_reducible apply Own.drew) | ((with_reducible apply Own.set_at); (focus (show _ ≤ _; omega))))); have hG := hF; clear hF; clear hO; intro hO; refine own_call hO (fun hB => HKY.out _ hB) ?_; clear hO; intro w1 hO; (try simp only [World.size_alloc1, World.size_drew, Nat.reduceAdd] at hO); (try simp only [upd, updI, List.map_cons, List.map_nil, eq_self, if_true, if_false, reduceIte, Nat.add_eq_left, Nat.left_eq_add, Nat.reduceEqDiff, List.set_cons_zero, List.set_cons_succ, hG] at hO); clear hG; have hF := hO; (try simp only [Own, Item.Holds, apartI, CellsAt, Nat.reduceAdd, Nat.zero_add, List.mem_cons, List.not_mem_nil, or_false, forall_eq_or_imp, forall_eq, ne_eq, false_imp_iff, implies_true, and_true] at hF)))
        go_roundw
        case rel => exact ⟨k + 1, by omega, by go_num, by rw [← HN.out.2, ← HN.out.1]; exact Own.drop hO⟩
        case measure => simp [intOf]; omega
theorem pbI_is {f lo hi : Int} {T : List Pt} {n : Nat} {w : World} (hf : keyB f = true) (h0 : 0 ≤ lo) (h1 : lo ≤ hi) (hT : TabH w) (hA : TabA w) (hE : tsL f lo hi = T) (hn : T.length = n) (W : World) (hW : Below w.heap.size w W) :
    Calls Tryd.prog 51 #[.int .i64 f, .int .i64 lo, .int .i64 hi] W (RowOut 37 3 n (pcC T) W) := by
  subst hn hE
  rw [← pb_is hf h0 h1]
  exact pbI_any f lo hi W hf (hT.below hW) (hA.below hW)

/- Chapter 15 in the program: a pitch is tried as a tone, a step is tried; both write into the line of the search. -/
open Go.RowKit Go.Joins

/-- What a search stands on: a cantus and the tables. -/
structure CtAt (w : World) (f : Int) (va : Value) (c : List Pt) (n : Nat) : Prop where
  hc : c.length = n
  sc : SlAt w va n 3 (pcC c)
  pc : ∀ x ∈ c, pvP x = true
  n2 : 2 ≤ n
  n10 : n ≤ 10
  hT : TabH w
  hA : TabA w
theorem CtAt.below {w w' : World} {f : Int} {va : Value} {c : List Pt} {n : Nat} (h : CtAt w f va c n) (hb : Below w.heap.size w w') : CtAt w' f va c n :=
  ⟨h.hc, h.sc.below hb, h.pc, h.n2, h.n10, h.hT.below hb, h.hA.below hb⟩
theorem CtAt.cp {w : World} {f : Int} {va vb : Value} {c l : List Pt} {n : Nat} (h : CtAt w f va c n) (hl : l.length = n) (pl : ∀ x ∈ l, pvP x = true) (sl : SlAt w vb n 3 (pcC l)) : CpAt w f va vb c l n :=
  ⟨h.hc, hl, h.sc, sl, h.pc, pl, h.n2, h.n10, h.hT, h.hA⟩
theorem pl_set {l : List Pt} {k : Nat} {p : Pt} (pl : ∀ x ∈ l, pvP x = true) (hp : pvP p = true) : ∀ x ∈ l.set k p, pvP x = true := fun x hx => by
  rcases List.mem_or_eq_of_mem_set hx with h | rfl
  · exact pl x h
  · exact hp
theorem pcC_set {l : List Pt} {k : Nat} {p : Pt} (hk : k < l.length) : (((pcC l).set (k * 3) (.int .i64 p.s)).set (k * 3 + 1) (.int .i64 p.a)).set (k * 3 + 2) (.int .i64 p.o) = pcC (l.set k p) := by
  obtain ⟨x, hx⟩ : ∃ x, l[k]? = some x := ⟨_, List.getElem?_eq_getElem hk⟩
  have e : l = l.take k ++ x :: l.drop (k + 1) := by
    obtain ⟨h1, rfl⟩ := List.getElem?_eq_some_iff.1 hx
    rw [← List.drop_eq_getElem_cons h1, List.take_append_drop]
  have hl : (l.take k).length = k := by rw [List.length_take]; omega
  have e2 : l.set k p = l.take k ++ p :: l.drop (k + 1) := by
    conv => lhs; rw [e]
    rw [List.set_append, if_neg (by omega), hl, Nat.sub_self, List.set_cons_zero]
  rw [e2]
  conv => lhs; rw [e]
  have := pcC_put (u := l.take k) (z := x) (x := p) (r := l.drop (k + 1)) hl
  exact this

set_option maxRecDepth 20000 in
set_option maxHeartbeats 4000000 in
theorem fitI_own {n : Nat} {B : World → Prop} {w : World} {L : List Item} {f : Int} {va : Value} {c l : List Pt} {N k : Nat} {y p : Pt} {b : Bool} (ql cl qc cc : Nat) (hB : ∀ W, B W → CtAt W f va c N) (hl : l.length = N) (pl : ∀ x ∈ l, pvP x = true) (hy : c[k]? = some y) (hp : pvP p = true) (hz : cfB f c k p = b)
    (hO : Own n B w (.row 37 3 (.slice (some ⟨ql, 0, none⟩) N cl) N (pcC l) :: L)) :
    Calls Tryd.prog 52 #[.agg #[.int .i64 f, va, .slice (some ⟨ql, 0, none⟩) N cl, .slice (some ⟨qc, 0, none⟩) N cc], .int .i64 k, .agg #[.int .i64 p.s, .int .i64 p.a, .int .i64 p.o]] w (OwnOut n B fun v L' => v = .bool b ∧ L' = .row 37 3 (.slice (some ⟨ql, 0, none⟩) N cl) N (pcC (l.set k p)) :: L) := by
  have hF := True.intro
  have hk : k < N := by rw [← (hB _ hO.base).hc]; exact (List.getElem?_eq_some_iff.1 hy).1
  have hk2 : (k : Int) < (N : Int) := by omega
  have hk0 : (0 : Int) ≤ (k : Int) := by omega
  obtain ⟨A, ca, hva, _, hA⟩ := (hB _ hO.base).sc.open
  obtain ⟨b1, o1, hA1, hca1, hca2, g1⟩ := hA (by omega)
  subst hA1 hva
  have hql := (hO.lt _ List.mem_cons_self ql rfl).2
  obtain ⟨x0, hx0⟩ : ∃ x, l[k]? = some x := ⟨_, List.getElem?_eq_getElem (by omega)⟩
  have d0 := hO.row_cell (pcC_at hx0).1
  have d1 := hO.row_cell (pcC_at hx0).2.1
  have d2 := hO.row_cell (pcC_at hx0).2.2
  have f0 := hO.row_free (k * 3)
  have f1 := hO.row_free (k * 3 + 1)
  have f2 := hO.row_free (k * 3 + 2)
  have HQ := hid (show (l.set k p)[k]? = some p from List.getElem?_set_self (by omega))
  obtain ⟨z, hz9⟩ : ∃ z, oneZ f y p (k : Int) (N : Int) = z := ⟨_, rfl⟩
  have HB := hid (show (z == 0) = b by rw [← hz, ← hz9]; unfold cfB; rw [cD_at hy, (hB _ hO.base).hc])
  have HT := hid (fun (V : World) (hV : B V) (hs : SlAt V (.slice (some ⟨ql, 0, none⟩) N cl) N 3 (pcC (l.set k p))) qr cr (hr : SlAt V (.slice (some ⟨qr, 0, none⟩) 4 cr) 4 2 trL) =>
    ffT_is ((hB V hV).cp (by rw [List.length_set]; exact hl) (pl_set pl hp) hs) hy HQ.out hz9 qr cr V (Below.refl _ _) hr)
  have HPC := hid (pcC_set (p := p) (show k < l.length by omega))
  clear hx0 hz9 hz hy hp pl hl hA hB
  go_enter Tryd.func52, Tryd.ntmps52
  go_wp2_with fail
  replace hO := ((hO.row_set (k * 3) (.int .i64 p.s)).row_set (k * 3 + 1) (.int .i64 p.a)).row_set (k * 3 + 2) (.int .i64 p.o)
  rw [HPC.out] at hO
  clear d0 d1 d2 f0 f1 f2
  have hO2 := (hO.alloc (t := 52) (vs := [.int .i64 f, .slice (some ⟨b1, o1, none⟩) N ca, .slice (some ⟨ql, 0, none⟩) N cl, .slice (some ⟨qc, 0, none⟩) N cc])).alloc (t := 37) (vs := [.int .i64 p.s, .int .i64 p.a, .int .i64 p.o])
  simp only [World.size_alloc1, World.size_setCell] at hO2
  clear hO
  have hO := hO2
  clear hO2
  apply own_code hO
  (repeat (first | (with_reducible exact hO) | (with_reducible apply Own.alloc) | (with_reducible apply Own.drew) | ((with_reducible apply Own.set_at); (focus (show _ ≤ _; omega)))))
  have hG := hF; clear hF; clear hO; intro hO
  (try simp only [World.size_alloc1, World.size_drew, Nat.reduceAdd] at hO); (try simp only [upd, updI, List.map_cons, List.map_nil, eq_self, if_true, if_false, reduceIte, Nat.add_eq_left, Nat.left_eq_add, Nat.reduceEqDiff, List.set_cons_zero, List.set_cons_succ, hG] at hO); clear hG
  refine region_own (X := fun _ => True) [] (by kernel_rfl) (hO) (trivial) (by first | exact XStab.true | exact XStab.rd | exact XStab.rdIf) ?_
  clear hO
  refine Sim.sP (i := 0) (d := some 13) (h := ?_)
  refine Sim.sO (i := 1) (d := some 14) (v := ?_) (hy := ?_) (h := ?_)
  rotate_left
  · first | refine Or.inl ⟨by rfl, fun w hO => ?_⟩ | (refine Or.inr ⟨by rfl, ?_⟩; with_reducible rfl)
    first | done | (have hF := hO; (try simp only [Own, Item.Holds, apartI, CellsAt, Nat.reduceAdd, Nat.zero_add, List.mem_cons, List.not_mem_nil, or_false, forall_eq_or_imp, forall_eq, ne_eq, false_imp_iff, implies_true, and_true] at hF); (skip); refine Out.same ?_; go_simp; all_goals with_reducible rfl)
  refine Sim.sP (i := 3) (d := some 16) (h := ?_)
  refine Sim.one' (i := 2) (oi := { dst := some 15, op := Op.call { callee := Callee.value (Operand.func 65), args := #[], argTypes := #[] }, type := 92, pos := "l15_completion.go:76", after := #[], guard := none }) (by kernel_rfl) rfl (by rfl) (fun w0 hO hX K hK => ?_)
  have hF := hO; (try simp only [Own, Item.Holds, apartI, CellsAt, Nat.reduceAdd, Nat.zero_add, List.mem_cons, List.not_mem_nil, or_false, forall_eq_or_imp, forall_eq, ne_eq, false_imp_iff, implies_true, and_true] at hF)
  go_simp
  refine (trI_any _).mono ?_
  rintro e wa ⟨vr, rfl, hrow, hbw⟩
  have hO2 := hO.addRow hbw hrow
  obtain ⟨qr, cr, hvr, _, _⟩ := hO2.row_open (by omega)
  subst hvr
  apply hK _ _ _ (fun _ => True)
  · exact hO2
  · exact trivial
  · exact XStab.true
  · exact fun _ _ h => h.2
  clear hO2 hrow hbw
  clear hK K hF hO
  try simp only [Act.put, List.setIfInBounds_toArray, List.set_cons_zero, List.set_cons_succ]
  refine Sim.sO (i := 4) (d := some 17) (v := ?_) (hy := ?_) (h := ?_)
  rotate_left
  · first | refine Or.inl ⟨by rfl, fun w hO => ?_⟩ | (refine Or.inr ⟨by rfl, ?_⟩; with_reducible rfl)
    first | done | (refine Out.call (f := 64) (args := ?_) ?_ ?_; rotate_left; (focus (go_simp; all_goals with_reducible rfl)); exact HT.out _ hO.base (SlAt.of_row (hO.holds (.row 37 3 (.slice (some ⟨ql, 0, none⟩) N cl) N (pcC (l.set k p))) (List.mem_cons_of_mem _ (List.mem_cons_of_mem _ (List.mem_cons_of_mem _ List.mem_cons_self))))) _ _ (SlAt.of_row hO.1.1))
  refine Sim.sP (i := 5) (d := some 18) (h := ?_)
  refine Sim.sP (i := 6) (d := some 6) (h := ?_)
  refine Sim.done (by kernel_rfl) (fun w1 hO hX => ?_) _
  (try simp only [World.size_alloc1, World.size_drew, Nat.reduceAdd] at hO); (try simp only [upd, updI, List.map_cons, List.map_nil, eq_self, if_true, if_false, reduceIte, Nat.add_eq_left, Nat.left_eq_add, Nat.reduceEqDiff, List.set_cons_zero, List.set_cons_succ] at hO)
  have hF := hO; (try simp only [Own, Item.Holds, apartI, CellsAt, Nat.reduceAdd, Nat.zero_add, List.mem_cons, List.not_mem_nil, or_false, forall_eq_or_imp, forall_eq, ne_eq, false_imp_iff, implies_true, and_true] at hF)
  go_wp2_with fail
  go_ret
  exact ⟨_, _, rfl, ⟨by first | (rw [HB.out]; done) | (rw [← HB.out]; rfl) | (rw [← HB.out]; simp), rfl⟩, Own.sub (.cons _ (.cons _ (.cons _ (.refl _)))) hO⟩

theorem perm_row4 (a b c r : Item) (L : List Item) : (a :: b :: c :: r :: L).Perm (r :: a :: b :: c :: L) := List.perm_middle (l₁ := [a, b, c])

set_option maxRecDepth 20000 in
set_option maxHeartbeats 4000000 in
theorem folI_own {n : Nat} {B : World → Prop} {w : World} {L : List Item} {f : Int} {va : Value} {c l : List Pt} {N k : Nat} {x y o p : Pt} {b : Bool} (ql cl qc cc : Nat) (hB : ∀ W, B W → CtAt W f va c N) (hl : l.length = N) (pl : ∀ x ∈ l, pvP x = true) (hx : c[k]? = some x) (hy : c[k + 1]? = some y) (ho : pvP o = true) (hp : pvP p = true) (hz : (twoZ x o y p == 0) = b)
    (hO : Own n B w (.row 37 3 (.slice (some ⟨ql, 0, none⟩) N cl) N (pcC l) :: L)) :
    Calls Tryd.prog 71 #[.agg #[.int .i64 f, va, .slice (some ⟨ql, 0, none⟩) N cl, .slice (some ⟨qc, 0, none⟩) N cc], .int .i64 ((k : Int) + 1), .agg #[.int .i64 o.s, .int .i64 o.a, .int .i64 o.o], .agg #[.int .i64 p.s, .int .i64 p.a, .int .i64 p.o]] w (OwnOut n B fun v L' => v = .bool b ∧ L' = .row 37 3 (.slice (some ⟨ql, 0, none⟩) N cl) N (pcC ((l.set k o).set (k + 1) p)) :: L) := by
  have hF := True.intro
  have hk : k + 1 < N := by rw [← (hB _ hO.base).hc]; exact (List.getElem?_eq_some_iff.1 hy).1
  have hn10 := (hB _ hO.base).n10
  have k0 : (0 : Int) ≤ (k : Int) := by omega
  have k1 : (k : Int) < (N : Int) := by omega
  have k2 : (0 : Int) ≤ (k : Int) + 1 := by omega
  have k3 : (k : Int) + 1 < (N : Int) := by omega
  have wk : IntKind.i64.wrap ((k : Int) + 1 - 1) = (k : Int) := by rw [show (k : Int) + 1 - 1 = (k : Int) by omega]; exact IntWalk.i64_in _ (by omega)
  have wk2 : IntKind.i64.wrap (k : Int) = (k : Int) := IntWalk.i64_in _ (by omega)
  have tk : ((k : Int) + 1).toNat = k + 1 := by omega
  obtain ⟨A, ca, hva, _, hA⟩ := (hB _ hO.base).sc.open
  obtain ⟨b1, o1, hA1, hca1, hca2, g1⟩ := hA (by omega)
  subst hA1 hva
  have hql := (hO.lt _ List.mem_cons_self ql rfl).2
  obtain ⟨l2, hl2⟩ : ∃ m, (l.set k o).set (k + 1) p = m := ⟨_, rfl⟩
  have hll : l2.length = N := by rw [← hl2, List.length_set, List.length_set]; exact hl
  have HQ0 := hid (show l2[k]? = some o by rw [← hl2, List.getElem?_set_ne (by omega)]; exact List.getElem?_set_self (by omega))
  have HQ1 := hid (show l2[k + 1]? = some p by rw [← hl2]; exact List.getElem?_set_self (by rw [List.length_set]; omega))
  have hpl := pl_set (k := k + 1) (pl_set (k := k) pl ho) hp
  obtain ⟨z, hz9⟩ : ∃ z, twoZ x o y p = z := ⟨_, rfl⟩
  have HB := hid (show (z == 0) = b by rw [← hz, hz9])
  have HT := hid (fun (V : World) (hV : B V) (hs : SlAt V (.slice (some ⟨ql, 0, none⟩) N cl) N 3 (pcC l2)) qr cr (hr : SlAt V (.slice (some ⟨qr, 0, none⟩) 3 cr) 3 2 srL) =>
    ffS_is ((hB V hV).cp hll (by rw [← hl2]; exact hpl) hs) hx HQ0.out hy HQ1.out hz9 qr cr V (Below.refl _ _) hr)
  have HP0 := hid (pcC_set (p := o) (show k < l.length by omega))
  have HP1 := hid (pcC_set (p := p) (show k + 1 < (l.set k o).length by rw [List.length_set]; omega))
  have HL2 := hid hl2
  obtain ⟨x0, hx0⟩ : ∃ x, l[k]? = some x := ⟨_, List.getElem?_eq_getElem (by omega)⟩
  obtain ⟨x1, hx1⟩ : ∃ x, (l.set k o)[k + 1]? = some x := ⟨_, List.getElem?_eq_getElem (by rw [List.length_set]; omega)⟩
  have HX0 := hid hx0
  have HX1 := hid hx1
  clear hx0 hx1 hz9 hz hx hy hp ho pl hl hA hB hpl hll hl2
  go_enter Tryd.func71, Tryd.ntmps71
  go_wp2_with fail
  have hO2 := ((hO.alloc (t := 52) (vs := [.int .i64 f, .slice (some ⟨b1, o1, none⟩) N ca, .slice (some ⟨ql, 0, none⟩) N cl, .slice (some ⟨qc, 0, none⟩) N cc])).alloc (t := 37) (vs := [.int .i64 o.s, .int .i64 o.a, .int .i64 o.o])).alloc (t := 37) (vs := [.int .i64 p.s, .int .i64 p.a, .int .i64 p.o])
  simp only [World.size_alloc1, World.size_setCell] at hO2
  clear hO
  have hO := hO2.perm (perm_row4 _ _ _ _ _)
  clear hO2
  apply own_code hO
  (repeat (first | (with_reducible exact hO) | (with_reducible apply Own.alloc) | (with_reducible apply Own.drew) | ((with_reducible apply Own.set_at); (focus (show _ ≤ _; omega)))))
  have hG := hF; clear hF; clear hO; intro hO
  (try simp only [World.size_alloc1, World.size_drew, Nat.reduceAdd] at hO); (try simp only [upd, updI, List.map_cons, List.map_nil, eq_self, if_true, if_false, reduceIte, Nat.add_eq_left, Nat.left_eq_add, Nat.reduceEqDiff, List.set_cons_zero, List.set_cons_succ, hG] at hO); clear hG
  refine region_own (X := fun _ => True) [12, 14] (by kernel_rfl) (hO) (trivial) (by first | exact XStab.true | exact XStab.rd | exact XStab.rdIf) ?_
  clear hO
  refine Sim.sP (i := 0) (d := some 9) (h := ?_)
  refine Sim.sP (i := 1) (d := some 10) (h := ?_)
  refine Sim.sO (i := 2) (d := some 11) (v := ?_) (hy := ?_) (h := ?_)
  rotate_left
  · first | refine Or.inl ⟨by rfl, fun w hO => ?_⟩ | (refine Or.inr ⟨by rfl, ?_⟩; with_reducible rfl)
    first | done | (have hF := hO; (try simp only [Own, Item.Holds, apartI, CellsAt, Nat.reduceAdd, Nat.zero_add, List.mem_cons, List.not_mem_nil, or_false, forall_eq_or_imp, forall_eq, ne_eq, false_imp_iff, implies_true, and_true] at hF); (skip); refine Out.same ?_; go_simp; all_goals with_reducible rfl)
  refine Sim.sP (i := 3) (d := some 12) (h := ?_)
  refine Sim.sP (i := 4) (d := some 13) (h := ?_)
  refine Sim.sP (i := 5) (d := some 14) (h := ?_)
  refine Sim.sP (i := 6) (d := some 15) (h := ?_)
  refine Sim.sP (i := 8) (d := some 17) (h := ?_)
  refine Sim.sO (i := 9) (d := some 18) (v := ?_) (hy := ?_) (h := ?_)
  rotate_left
  · first | refine Or.inl ⟨by rfl, fun w hO => ?_⟩ | (refine Or.inr ⟨by rfl, ?_⟩; with_reducible rfl)
    first | done | (have hF := hO; (try simp only [Own, Item.Holds, apartI, CellsAt, Nat.reduceAdd, Nat.zero_add, List.mem_cons, List.not_mem_nil, or_false, forall_eq_or_imp, forall_eq, ne_eq, false_imp_iff, implies_true, and_true] at hF); (skip); refine Out.same ?_; go_simp; all_goals with_reducible rfl)
  refine Sim.sP (i := 11) (d := some 20) (h := ?_)
  refine Sim.many (rs := [7, 10, 12]) (by kernel_rfl) (by decide) ?_
  refine AllS.cons (oi := { dst := some 16, op := Op.load 23 (Operand.tmp 15), type := 23, pos := "l15_completion.go:81", after := #[{ on := 6, ground := Ground.data }, { on := 12, ground := Ground.gcOnly Departure.lateStores }], guard := none }) rfl (by rfl) (fun w0 hO hX K hK => ?_) ?_
  rotate_left
  refine AllS.cons (oi := { dst := some 19, op := Op.load 37 (Operand.tmp 7), type := 37, pos := "l15_completion.go:81", after := #[{ on := 12, ground := Ground.gcOnly Departure.lateStores }], guard := none }) rfl (by rfl) (fun w0 hO hX K hK => ?_) ?_
  rotate_left
  refine AllS.cons (oi := { dst := none, op := Op.store 37 (Operand.tmp 20) (Operand.tmp 18), type := 0, pos := "l15_completion.go:81", after := #[{ on := 11, ground := Ground.data }, { on := 9, ground := Ground.data }, { on := 0, ground := Ground.phase }, { on := 1, ground := Ground.phase }, { on := 2, ground := Ground.phase }, { on := 3, ground := Ground.phase }, { on := 4, ground := Ground.phase }, { on := 5, ground := Ground.textOnly Departure.lateStores }, { on := 6, ground := Ground.textOnly Departure.lateStores }, { on := 7, ground := Ground.textOnly Departure.lateStores }, { on := 8, ground := Ground.textOnly Departure.lateStores }, { on := 9, ground := Ground.phase }, { on := 10, ground := Ground.textOnly Departure.lateStores }], guard := none }) rfl (by rfl) (fun w0 hO hX K hK => ?_) ?_
  rotate_left
  exact AllS.nil
  rotate_right 3
  have hF := hO; (try simp only [Own, Item.Holds, apartI, CellsAt, Nat.reduceAdd, Nat.zero_add, List.mem_cons, List.not_mem_nil, or_false, forall_eq_or_imp, forall_eq, ne_eq, false_imp_iff, implies_true, and_true] at hF); (skip)
  go_simp
  apply hK _ _ _ (fun _ => True)
  (repeat (first | (with_reducible exact hO) | (with_reducible apply Own.alloc) | (with_reducible apply Own.drew) | ((with_reducible apply Own.set_at); (focus (show _ ≤ _; omega)))))
  · first | exact trivial | exact hX | exact hX.below (below1 _) | exact RdIf.gone | exact hX.keep ((Below.refl _ _).setCell (by first | omega | (dsimp only; omega)) _)
  · exact (by first | exact XStab.true | exact XStab.rd | exact XStab.rdIf)
  · first | exact fun _ _ h => h.2 | exact fun _ _ h => h | exact fun h => absurd h (by decide)
  try simp only [upd, updI, List.map_cons, List.map_nil, eq_self, if_true, if_false, reduceIte, Nat.add_eq_left, Nat.left_eq_add, Nat.reduceEqDiff, List.set_cons_zero, List.set_cons_succ, hF]
  clear hK K hF hO
  try simp only [Act.put, List.setIfInBounds_toArray, List.set_cons_zero, List.set_cons_succ]
  refine Sim.many (rs := [10, 12]) (by kernel_rfl) (by decide) ?_
  refine AllS.cons (oi := { dst := some 19, op := Op.load 37 (Operand.tmp 7), type := 37, pos := "l15_completion.go:81", after := #[{ on := 12, ground := Ground.gcOnly Departure.lateStores }], guard := none }) rfl (by rfl) (fun w0 hO hX K hK => ?_) ?_
  rotate_left
  refine AllS.cons (oi := { dst := none, op := Op.store 37 (Operand.tmp 20) (Operand.tmp 18), type := 0, pos := "l15_completion.go:81", after := #[{ on := 11, ground := Ground.data }, { on := 9, ground := Ground.data }, { on := 0, ground := Ground.phase }, { on := 1, ground := Ground.phase }, { on := 2, ground := Ground.phase }, { on := 3, ground := Ground.phase }, { on := 4, ground := Ground.phase }, { on := 5, ground := Ground.textOnly Departure.lateStores }, { on := 6, ground := Ground.textOnly Departure.lateStores }, { on := 7, ground := Ground.textOnly Departure.lateStores }, { on := 8, ground := Ground.textOnly Departure.lateStores }, { on := 9, ground := Ground.phase }, { on := 10, ground := Ground.textOnly Departure.lateStores }], guard := none }) rfl (by rfl) (fun w0 hO hX K hK => ?_) ?_
  rotate_left
  exact AllS.nil
  rotate_right 2
  have hF := hO; (try simp only [Own, Item.Holds, apartI, CellsAt, Nat.reduceAdd, Nat.zero_add, List.mem_cons, List.not_mem_nil, or_false, forall_eq_or_imp, forall_eq, ne_eq, false_imp_iff, implies_true, and_true] at hF); (skip)
  go_simp
  apply hK _ _ _ (fun _ => True)
  (repeat (first | (with_reducible exact hO) | (with_reducible apply Own.alloc) | (with_reducible apply Own.drew) | ((with_reducible apply Own.set_at); (focus (show _ ≤ _; omega)))))
  · first | exact trivial | exact hX | exact hX.below (below1 _) | exact RdIf.gone | exact hX.keep ((Below.refl _ _).setCell (by first | omega | (dsimp only; omega)) _)
  · exact (by first | exact XStab.true | exact XStab.rd | exact XStab.rdIf)
  · first | exact fun _ _ h => h.2 | exact fun _ _ h => h | exact fun h => absurd h (by decide)
  try simp only [upd, updI, List.map_cons, List.map_nil, eq_self, if_true, if_false, reduceIte, Nat.add_eq_left, Nat.left_eq_add, Nat.reduceEqDiff, List.set_cons_zero, List.set_cons_succ, hF]
  clear hK K hF hO
  try simp only [Act.put, List.setIfInBounds_toArray, List.set_cons_zero, List.set_cons_succ]
  refine Sim.one' (i := 12) (oi := { dst := none, op := Op.store 37 (Operand.tmp 20) (Operand.tmp 18), type := 0, pos := "l15_completion.go:81", after := #[{ on := 11, ground := Ground.data }, { on := 9, ground := Ground.data }, { on := 0, ground := Ground.phase }, { on := 1, ground := Ground.phase }, { on := 2, ground := Ground.phase }, { on := 3, ground := Ground.phase }, { on := 4, ground := Ground.phase }, { on := 5, ground := Ground.textOnly Departure.lateStores }, { on := 6, ground := Ground.textOnly Departure.lateStores }, { on := 7, ground := Ground.textOnly Departure.lateStores }, { on := 8, ground := Ground.textOnly Departure.lateStores }, { on := 9, ground := Ground.phase }, { on := 10, ground := Ground.textOnly Departure.lateStores }], guard := none }) (by kernel_rfl) rfl (by rfl) (fun w0 hO hX K hK => ?_)
  (have hF := hO; (try simp only [Own, Item.Holds, apartI, CellsAt, Nat.reduceAdd, Nat.zero_add, List.mem_cons, List.not_mem_nil, or_false, forall_eq_or_imp, forall_eq, ne_eq, false_imp_iff, implies_true, and_true] at hF))
  have d0 := hO.row_cell (pcC_at HX0.out).1
  have d1 := hO.row_cell (pcC_at HX0.out).2.1
  have d2 := hO.row_cell (pcC_at HX0.out).2.2
  have f0 := hO.row_free (k * 3)
  have f1 := hO.row_free (k * 3 + 1)
  have f2 := hO.row_free (k * 3 + 2)
  go_simp
  apply hK _ _ _ (fun _ => True)
  · exact Own.cast (((hO.row_set (k * 3) (.int .i64 o.s)).row_set (k * 3 + 1) (.int .i64 o.a)).row_set (k * 3 + 2) (.int .i64 o.o)) (by rw [HP0.out])
  · exact trivial
  · exact XStab.true
  · exact fun h => absurd h (by decide)
  clear d0 d1 d2 f0 f1 f2 hO hF
  clear hK K
  try simp only [Act.put, List.setIfInBounds_toArray, List.set_cons_zero, List.set_cons_succ]
  refine Sim.sP (i := 13) (d := some 21) (h := ?_)
  refine Sim.one' (i := 14) (oi := { dst := none, op := Op.store 37 (Operand.tmp 21) (Operand.tmp 19), type := 0, pos := "l15_completion.go:81", after := #[{ on := 13, ground := Ground.data }, { on := 10, ground := Ground.data }, { on := 12, ground := Ground.chain }, { on := 0, ground := Ground.phase }, { on := 1, ground := Ground.phase }, { on := 2, ground := Ground.phase }, { on := 3, ground := Ground.phase }, { on := 4, ground := Ground.phase }, { on := 5, ground := Ground.phase }, { on := 6, ground := Ground.phase }, { on := 7, ground := Ground.phase }, { on := 8, ground := Ground.phase }, { on := 9, ground := Ground.phase }, { on := 10, ground := Ground.phase }, { on := 11, ground := Ground.phase }, { on := 12, ground := Ground.phase }], guard := none }) (by kernel_rfl) rfl (by rfl) (fun w0 hO hX K hK => ?_)
  (have hF := hO; (try simp only [Own, Item.Holds, apartI, CellsAt, Nat.reduceAdd, Nat.zero_add, List.mem_cons, List.not_mem_nil, or_false, forall_eq_or_imp, forall_eq, ne_eq, false_imp_iff, implies_true, and_true] at hF))
  have d0 := hO.row_cell (pcC_at HX1.out).1
  have d1 := hO.row_cell (pcC_at HX1.out).2.1
  have d2 := hO.row_cell (pcC_at HX1.out).2.2
  have f0 := hO.row_free ((k + 1) * 3)
  have f1 := hO.row_free ((k + 1) * 3 + 1)
  have f2 := hO.row_free ((k + 1) * 3 + 2)
  go_simp
  apply hK _ _ _ (fun _ => True)
  · exact Own.cast (((hO.row_set ((k + 1) * 3) (.int .i64 p.s)).row_set ((k + 1) * 3 + 1) (.int .i64 p.a)).row_set ((k + 1) * 3 + 2) (.int .i64 p.o)) (by rw [HP1.out, HL2.out])
  · exact trivial
  · exact XStab.true
  · exact fun h => absurd h (by decide)
  clear d0 d1 d2 f0 f1 f2 hO hF
  clear hK K
  try simp only [Act.put, List.setIfInBounds_toArray, List.set_cons_zero, List.set_cons_succ]
  refine Sim.done (by kernel_rfl) (fun w1 hO hX => ?_) _
  (try simp only [World.size_alloc1, World.size_drew, Nat.reduceAdd] at hO); (try simp only [upd, updI, List.map_cons, List.map_nil, eq_self, if_true, if_false, reduceIte, Nat.add_eq_left, Nat.left_eq_add, Nat.reduceEqDiff, List.set_cons_zero, List.set_cons_succ] at hO)
  have hF := hO; (try simp only [Own, Item.Holds, apartI, CellsAt, Nat.reduceAdd, Nat.zero_add, List.mem_cons, List.not_mem_nil, or_false, forall_eq_or_imp, forall_eq, ne_eq, false_imp_iff, implies_true, and_true] at hF)
  rotate_left 1
  (have hF := hO; (try simp only [Own, Item.Holds, apartI, CellsAt, Nat.reduceAdd, Nat.zero_add, List.mem_cons, List.not_mem_nil, or_false, forall_eq_or_imp, forall_eq, ne_eq, false_imp_iff, implies_true, and_true] at hF))
  have d0 := hO.row_cell (pcC_at HX0.out).1
  have d1 := hO.row_cell (pcC_at HX0.out).2.1
  have d2 := hO.row_cell (pcC_at HX0.out).2.2
  have f0 := hO.row_free (k * 3)
  have f1 := hO.row_free (k * 3 + 1)
  have f2 := hO.row_free (k * 3 + 2)
  go_simp
  apply hK _ _ _ (fun _ => True)
  · exact Own.cast (((hO.row_set (k * 3) (.int .i64 o.s)).row_set (k * 3 + 1) (.int .i64 o.a)).row_set (k * 3 + 2) (.int .i64 o.o)) (by rw [HP0.out])
  · exact trivial
  · exact XStab.true
  · exact fun h => absurd h (by decide)
  clear d0 d1 d2 f0 f1 f2 hO hF
  clear hK K
  try simp only [Act.put, List.setIfInBounds_toArray, List.set_cons_zero, List.set_cons_succ]
  refine Sim.sO (i := 10) (d := some 19) (v := ?_) (hy := ?_) (h := ?_)
  rotate_left
  · first | refine Or.inl ⟨by rfl, fun w hO => ?_⟩ | (refine Or.inr ⟨by rfl, ?_⟩; with_reducible rfl)
    first | done | (have hF := hO; (try simp only [Own, Item.Holds, apartI, CellsAt, Nat.reduceAdd, Nat.zero_add, List.mem_cons, List.not_mem_nil, or_false, forall_eq_or_imp, forall_eq, ne_eq, false_imp_iff, implies_true, and_true] at hF); (skip); refine Out.same ?_; go_simp; all_goals with_reducible rfl)
  refine Sim.sP (i := 13) (d := some 21) (h := ?_)
  refine Sim.one' (i := 14) (oi := { dst := none, op := Op.store 37 (Operand.tmp 21) (Operand.tmp 19), type := 0, pos := "l15_completion.go:81", after := #[{ on := 13, ground := Ground.data }, { on := 10, ground := Ground.data }, { on := 12, ground := Ground.chain }, { on := 0, ground := Ground.phase }, { on := 1, ground := Ground.phase }, { on := 2, ground := Ground.phase }, { on := 3, ground := Ground.phase }, { on := 4, ground := Ground.phase }, { on := 5, ground := Ground.phase }, { on := 6, ground := Ground.phase }, { on := 7, ground := Ground.phase }, { on := 8, ground := Ground.phase }, { on := 9, ground := Ground.phase }, { on := 10, ground := Ground.phase }, { on := 11, ground := Ground.phase }, { on := 12, ground := Ground.phase }], guard := none }) (by kernel_rfl) rfl (by rfl) (fun w0 hO hX K hK => ?_)
  (have hF := hO; (try simp only [Own, Item.Holds, apartI, CellsAt, Nat.reduceAdd, Nat.zero_add, List.mem_cons, List.not_mem_nil, or_false, forall_eq_or_imp, forall_eq, ne_eq, false_imp_iff, implies_true, and_true] at hF))
  have d0 := hO.row_cell (pcC_at HX1.out).1
  have d1 := hO.row_cell (pcC_at HX1.out).2.1
  have d2 := hO.row_cell (pcC_at HX1.out).2.2
  have f0 := hO.row_free ((k + 1) * 3)
  have f1 := hO.row_free ((k + 1) * 3 + 1)
  have f2 := hO.row_free ((k + 1) * 3 + 2)
  go_simp
  apply hK _ _ _ (fun _ => True)
  · exact Own.cast (((hO.row_set ((k + 1) * 3) (.int .i64 p.s)).row_set ((k + 1) * 3 + 1) (.int .i64 p.a)).row_set ((k + 1) * 3 + 2) (.int .i64 p.o)) (by rw [HP1.out, HL2.out])
  · exact trivial
  · exact XStab.true
  · exact fun h => absurd h (by decide)
  clear d0 d1 d2 f0 f1 f2 hO hF
  clear hK K
  try simp only [Act.put, List.setIfInBounds_toArray, List.set_cons_zero, List.set_cons_succ]
  refine Sim.done (by kernel_rfl) (fun w1 hO hX => ?_) _
  (try simp only [World.size_alloc1, World.size_drew, Nat.reduceAdd] at hO); (try simp only [upd, updI, List.map_cons, List.map_nil, eq_self, if_true, if_false, reduceIte, Nat.add_eq_left, Nat.left_eq_add, Nat.reduceEqDiff, List.set_cons_zero, List.set_cons_succ] at hO)
  have hF := hO; (try simp only [Own, Item.Holds, apartI, CellsAt, Nat.reduceAdd, Nat.zero_add, List.mem_cons, List.not_mem_nil, or_false, forall_eq_or_imp, forall_eq, ne_eq, false_imp_iff, implies_true, and_true] at hF)
  rotate_left 1
  have hF := hO; (try simp only [Own, Item.Holds, apartI, CellsAt, Nat.reduceAdd, Nat.zero_add, List.mem_cons, List.not_mem_nil, or_false, forall_eq_or_imp, forall_eq, ne_eq, false_imp_iff, implies_true, and_true] at hF); (skip)
  go_simp
  apply hK _ _ _ (fun _ => True)
  (repeat (first | (with_reducible exact hO) | (with_reducible apply Own.alloc) | (with_reducible apply Own.drew) | ((with_reducible apply Own.set_at); (focus (show _ ≤ _; omega)))))
  · first | exact trivial | exact hX | exact hX.below (below1 _) | exact RdIf.gone | exact hX.keep ((Below.refl _ _).setCell (by first | omega | (dsimp only; omega)) _)
  · exact (by first | exact XStab.true | exact XStab.rd | exact XStab.rdIf)
  · first | exact fun _ _ h => h.2 | exact fun _ _ h => h | exact fun h => absurd h (by decide)
  try simp only [upd, updI, List.map_cons, List.map_nil, eq_self, if_true, if_false, reduceIte, Nat.add_eq_left, Nat.left_eq_add, Nat.reduceEqDiff, List.set_cons_zero, List.set_cons_succ, hF]
  clear hK K hF hO
  try simp only [Act.put, List.setIfInBounds_toArray, List.set_cons_zero, List.set_cons_succ]
  refine Sim.many (rs := [7, 12]) (by kernel_rfl) (by decide) ?_
  refine AllS.cons (oi := { dst := some 16, op := Op.load 23 (Operand.tmp 15), type := 23, pos := "l15_completion.go:81", after := #[{ on := 6, ground := Ground.data }, { on := 12, ground := Ground.gcOnly Departure.lateStores }], guard := none }) rfl (by rfl) (fun w0 hO hX K hK => ?_) ?_
  rotate_left
  refine AllS.cons (oi := { dst := none, op := Op.store 37 (Operand.tmp 20) (Operand.tmp 18), type := 0, pos := "l15_completion.go:81", after := #[{ on := 11, ground := Ground.data }, { on := 9, ground := Ground.data }, { on := 0, ground := Ground.phase }, { on := 1, ground := Ground.phase }, { on := 2, ground := Ground.phase }, { on := 3, ground := Ground.phase }, { on := 4, ground := Ground.phase }, { on := 5, ground := Ground.textOnly Departure.lateStores }, { on := 6, ground := Ground.textOnly Departure.lateStores }, { on := 7, ground := Ground.textOnly Departure.lateStores }, { on := 8, ground := Ground.textOnly Departure.lateStores }, { on := 9, ground := Ground.phase }, { on := 10, ground := Ground.textOnly Departure.lateStores }], guard := none }) rfl (by rfl) (fun w0 hO hX K hK => ?_) ?_
  rotate_left
  exact AllS.nil
  rotate_right 2
  have hF := hO; (try simp only [Own, Item.Holds, apartI, CellsAt, Nat.reduceAdd, Nat.zero_add, List.mem_cons, List.not_mem_nil, or_false, forall_eq_or_imp, forall_eq, ne_eq, false_imp_iff, implies_true, and_true] at hF); (skip)
  go_simp
  apply hK _ _ _ (fun _ => True)
  (repeat (first | (with_reducible exact hO) | (with_reducible apply Own.alloc) | (with_reducible apply Own.drew) | ((with_reducible apply Own.set_at); (focus (show _ ≤ _; omega)))))
  · first | exact trivial | exact hX | exact hX.below (below1 _) | exact RdIf.gone | exact hX.keep ((Below.refl _ _).setCell (by first | omega | (dsimp only; omega)) _)
  · exact (by first | exact XStab.true | exact XStab.rd | exact XStab.rdIf)
  · first | exact fun _ _ h => h.2 | exact fun _ _ h => h | exact fun h => absurd h (by decide)
  try simp only [upd, updI, List.map_cons, List.map_nil, eq_self, if_true, if_false, reduceIte, Nat.add_eq_left, Nat.left_eq_add, Nat.reduceEqDiff, List.set_cons_zero, List.set_cons_succ, hF]
  clear hK K hF hO
  try simp only [Act.put, List.setIfInBounds_toArray, List.set_cons_zero, List.set_cons_succ]
  refine Sim.one' (i := 12) (oi := { dst := none, op := Op.store 37 (Operand.tmp 20) (Operand.tmp 18), type := 0, pos := "l15_completion.go:81", after := #[{ on := 11, ground := Ground.data }, { on := 9, ground := Ground.data }, { on := 0, ground := Ground.phase }, { on := 1, ground := Ground.phase }, { on := 2, ground := Ground.phase }, { on := 3, ground := Ground.phase }, { on := 4, ground := Ground.phase }, { on := 5, ground := Ground.textOnly Departure.lateStores }, { on := 6, ground := Ground.textOnly Departure.lateStores }, { on := 7, ground := Ground.textOnly Departure.lateStores }, { on := 8, ground := Ground.textOnly Departure.lateStores }, { on := 9, ground := Ground.phase }, { on := 10, ground := Ground.textOnly Departure.lateStores }], guard := none }) (by kernel_rfl) rfl (by rfl) (fun w0 hO hX K hK => ?_)
  (have hF := hO; (try simp only [Own, Item.Holds, apartI, CellsAt, Nat.reduceAdd, Nat.zero_add, List.mem_cons, List.not_mem_nil, or_false, forall_eq_or_imp, forall_eq, ne_eq, false_imp_iff, implies_true, and_true] at hF))
  have d0 := hO.row_cell (pcC_at HX0.out).1
  have d1 := hO.row_cell (pcC_at HX0.out).2.1
  have d2 := hO.row_cell (pcC_at HX0.out).2.2
  have f0 := hO.row_free (k * 3)
  have f1 := hO.row_free (k * 3 + 1)
  have f2 := hO.row_free (k * 3 + 2)
  go_simp
  apply hK _ _ _ (fun _ => True)
  · exact Own.cast (((hO.row_set (k * 3) (.int .i64 o.s)).row_set (k * 3 + 1) (.int .i64 o.a)).row_set (k * 3 + 2) (.int .i64 o.o)) (by rw [HP0.out])
  · exact trivial
  · exact XStab.true
  · exact fun h => absurd h (by decide)
  clear d0 d1 d2 f0 f1 f2 hO hF
  clear hK K
  try simp only [Act.put, List.setIfInBounds_toArray, List.set_cons_zero, List.set_cons_succ]
  refine Sim.sP (i := 13) (d := some 21) (h := ?_)
  refine Sim.one' (i := 14) (oi := { dst := none, op := Op.store 37 (Operand.tmp 21) (Operand.tmp 19), type := 0, pos := "l15_completion.go:81", after := #[{ on := 13, ground := Ground.data }, { on := 10, ground := Ground.data }, { on := 12, ground := Ground.chain }, { on := 0, ground := Ground.phase }, { on := 1, ground := Ground.phase }, { on := 2, ground := Ground.phase }, { on := 3, ground := Ground.phase }, { on := 4, ground := Ground.phase }, { on := 5, ground := Ground.phase }, { on := 6, ground := Ground.phase }, { on := 7, ground := Ground.phase }, { on := 8, ground := Ground.phase }, { on := 9, ground := Ground.phase }, { on := 10, ground := Ground.phase }, { on := 11, ground := Ground.phase }, { on := 12, ground := Ground.phase }], guard := none }) (by kernel_rfl) rfl (by rfl) (fun w0 hO hX K hK => ?_)
  (have hF := hO; (try simp only [Own, Item.Holds, apartI, CellsAt, Nat.reduceAdd, Nat.zero_add, List.mem_cons, List.not_mem_nil, or_false, forall_eq_or_imp, forall_eq, ne_eq, false_imp_iff, implies_true, and_true] at hF))
  have d0 := hO.row_cell (pcC_at HX1.out).1
  have d1 := hO.row_cell (pcC_at HX1.out).2.1
  have d2 := hO.row_cell (pcC_at HX1.out).2.2
  have f0 := hO.row_free ((k + 1) * 3)
  have f1 := hO.row_free ((k + 1) * 3 + 1)
  have f2 := hO.row_free ((k + 1) * 3 + 2)
  go_simp
  apply hK _ _ _ (fun _ => True)
  · exact Own.cast (((hO.row_set ((k + 1) * 3) (.int .i64 p.s)).row_set ((k + 1) * 3 + 1) (.int .i64 p.a)).row_set ((k + 1) * 3 + 2) (.int .i64 p.o)) (by rw [HP1.out, HL2.out])
  · exact trivial
  · exact XStab.true
  · exact fun h => absurd h (by decide)
  clear d0 d1 d2 f0 f1 f2 hO hF
  clear hK K
  try simp only [Act.put, List.setIfInBounds_toArray, List.set_cons_zero, List.set_cons_succ]
  refine Sim.done (by kernel_rfl) (fun w1 hO hX => ?_) _
  (try simp only [World.size_alloc1, World.size_drew, Nat.reduceAdd] at hO); (try simp only [upd, updI, List.map_cons, List.map_nil, eq_self, if_true, if_false, reduceIte, Nat.add_eq_left, Nat.left_eq_add, Nat.reduceEqDiff, List.set_cons_zero, List.set_cons_succ] at hO)
  have hF := hO; (try simp only [Own, Item.Holds, apartI, CellsAt, Nat.reduceAdd, Nat.zero_add, List.mem_cons, List.not_mem_nil, or_false, forall_eq_or_imp, forall_eq, ne_eq, false_imp_iff, implies_true, and_true] at hF)
  rotate_left 1
  (have hF := hO; (try simp only [Own, Item.Holds, apartI, CellsAt, Nat.reduceAdd, Nat.zero_add, List.mem_cons, List.not_mem_nil, or_false, forall_eq_or_imp, forall_eq, ne_eq, false_imp_iff, implies_true, and_true] at hF))
  have d0 := hO.row_cell (pcC_at HX0.out).1
  have d1 := hO.row_cell (pcC_at HX0.out).2.1
  have d2 := hO.row_cell (pcC_at HX0.out).2.2
  have f0 := hO.row_free (k * 3)
  have f1 := hO.row_free (k * 3 + 1)
  have f2 := hO.row_free (k * 3 + 2)
  go_simp
  apply hK _ _ _ (fun _ => True)
  · exact Own.cast (((hO.row_set (k * 3) (.int .i64 o.s)).row_set (k * 3 + 1) (.int .i64 o.a)).row_set (k * 3 + 2) (.int .i64 o.o)) (by rw [HP0.out])
  · exact trivial
  · exact XStab.true
  · exact fun h => absurd h (by decide)
  clear d0 d1 d2 f0 f1 f2 hO hF
  clear hK K
  try simp only [Act.put, List.setIfInBounds_toArray, List.set_cons_zero, List.set_cons_succ]
  refine Sim.sO (i := 7) (d := some 16) (v := ?_) (hy := ?_) (h := ?_)
  rotate_left
  · first | refine Or.inl ⟨by rfl, fun w hO => ?_⟩ | (refine Or.inr ⟨by rfl, ?_⟩; with_reducible rfl)
    first | done | (have hF := hO; (try simp only [Own, Item.Holds, apartI, CellsAt, Nat.reduceAdd, Nat.zero_add, List.mem_cons, List.not_mem_nil, or_false, forall_eq_or_imp, forall_eq, ne_eq, false_imp_iff, implies_true, and_true] at hF); (skip); refine Out.same ?_; go_simp; all_goals with_reducible rfl)
  refine Sim.sP (i := 13) (d := some 21) (h := ?_)
  refine Sim.one' (i := 14) (oi := { dst := none, op := Op.store 37 (Operand.tmp 21) (Operand.tmp 19), type := 0, pos := "l15_completion.go:81", after := #[{ on := 13, ground := Ground.data }, { on := 10, ground := Ground.data }, { on := 12, ground := Ground.chain }, { on := 0, ground := Ground.phase }, { on := 1, ground := Ground.phase }, { on := 2, ground := Ground.phase }, { on := 3, ground := Ground.phase }, { on := 4, ground := Ground.phase }, { on := 5, ground := Ground.phase }, { on := 6, ground := Ground.phase }, { on := 7, ground := Ground.phase }, { on := 8, ground := Ground.phase }, { on := 9, ground := Ground.phase }, { on := 10, ground := Ground.phase }, { on := 11, ground := Ground.phase }, { on := 12, ground := Ground.phase }], guard := none }) (by kernel_rfl) rfl (by rfl) (fun w0 hO hX K hK => ?_)
  (have hF := hO; (try simp only [Own, Item.Holds, apartI, CellsAt, Nat.reduceAdd, Nat.zero_add, List.mem_cons, List.not_mem_nil, or_false, forall_eq_or_imp, forall_eq, ne_eq, false_imp_iff, implies_true, and_true] at hF))
  have d0 := hO.row_cell (pcC_at HX1.out).1
  have d1 := hO.row_cell (pcC_at HX1.out).2.1
  have d2 := hO.row_cell (pcC_at HX1.out).2.2
  have f0 := hO.row_free ((k + 1) * 3)
  have f1 := hO.row_free ((k + 1) * 3 + 1)
  have f2 := hO.row_free ((k + 1) * 3 + 2)
  go_simp
  apply hK _ _ _ (fun _ => True)
  · exact Own.cast (((hO.row_set ((k + 1) * 3) (.int .i64 p.s)).row_set ((k + 1) * 3 + 1) (.int .i64 p.a)).row_set ((k + 1) * 3 + 2) (.int .i64 p.o)) (by rw [HP1.out, HL2.out])
  · exact trivial
  · exact XStab.true
  · exact fun h => absurd h (by decide)
  clear d0 d1 d2 f0 f1 f2 hO hF
  clear hK K
  try simp only [Act.put, List.setIfInBounds_toArray, List.set_cons_zero, List.set_cons_succ]
  refine Sim.done (by kernel_rfl) (fun w1 hO hX => ?_) _
  (try simp only [World.size_alloc1, World.size_drew, Nat.reduceAdd] at hO); (try simp only [upd, updI, List.map_cons, List.map_nil, eq_self, if_true, if_false, reduceIte, Nat.add_eq_left, Nat.left_eq_add, Nat.reduceEqDiff, List.set_cons_zero, List.set_cons_succ] at hO)
  have hF := hO; (try simp only [Own, Item.Holds, apartI, CellsAt, Nat.reduceAdd, Nat.zero_add, List.mem_cons, List.not_mem_nil, or_false, forall_eq_or_imp, forall_eq, ne_eq, false_imp_iff, implies_true, and_true] at hF)
  rotate_left 1
  (have hF := hO; (try simp only [Own, Item.Holds, apartI, CellsAt, Nat.reduceAdd, Nat.zero_add, List.mem_cons, List.not_mem_nil, or_false, forall_eq_or_imp, forall_eq, ne_eq, false_imp_iff, implies_true, and_true] at hF))
  have d0 := hO.row_cell (pcC_at HX0.out).1
  have d1 := hO.row_cell (pcC_at HX0.out).2.1
  have d2 := hO.row_cell (pcC_at HX0.out).2.2
  have f0 := hO.row_free (k * 3)
  have f1 := hO.row_free (k * 3 + 1)
  have f2 := hO.row_free (k * 3 + 2)
  go_simp
  apply hK _ _ _ (fun _ => True)
  · exact Own.cast (((hO.row_set (k * 3) (.int .i64 o.s)).row_set (k * 3 + 1) (.int .i64 o.a)).row_set (k * 3 + 2) (.int .i64 o.o)) (by rw [HP0.out])
  · exact trivial
  · exact XStab.true
  · exact fun h => absurd h (by decide)
  clear d0 d1 d2 f0 f1 f2 hO hF
  clear hK K
  try simp only [Act.put, List.setIfInBounds_toArray, List.set_cons_zero, List.set_cons_succ]
  refine Sim.sO (i := 7) (d := some 16) (v := ?_) (hy := ?_) (h := ?_)
  rotate_left
  · first | refine Or.inl ⟨by rfl, fun w hO => ?_⟩ | (refine Or.inr ⟨by rfl, ?_⟩; with_reducible rfl)
    first | done | (have hF := hO; (try simp only [Own, Item.Holds, apartI, CellsAt, Nat.reduceAdd, Nat.zero_add, List.mem_cons, List.not_mem_nil, or_false, forall_eq_or_imp, forall_eq, ne_eq, false_imp_iff, implies_true, and_true] at hF); (skip); refine Out.same ?_; go_simp; all_goals with_reducible rfl)
  refine Sim.sO (i := 10) (d := some 19) (v := ?_) (hy := ?_) (h := ?_)
  rotate_left
  · first | refine Or.inl ⟨by rfl, fun w hO => ?_⟩ | (refine Or.inr ⟨by rfl, ?_⟩; with_reducible rfl)
    first | done | (have hF := hO; (try simp only [Own, Item.Holds, apartI, CellsAt, Nat.reduceAdd, Nat.zero_add, List.mem_cons, List.not_mem_nil, or_false, forall_eq_or_imp, forall_eq, ne_eq, false_imp_iff, implies_true, and_true] at hF); (skip); refine Out.same ?_; go_simp; all_goals with_reducible rfl)
  refine Sim.sP (i := 13) (d := some 21) (h := ?_)
  refine Sim.one' (i := 14) (oi := { dst := none, op := Op.store 37 (Operand.tmp 21) (Operand.tmp 19), type := 0, pos := "l15_completion.go:81", after := #[{ on := 13, ground := Ground.data }, { on := 10, ground := Ground.data }, { on := 12, ground := Ground.chain }, { on := 0, ground := Ground.phase }, { on := 1, ground := Ground.phase }, { on := 2, ground := Ground.phase }, { on := 3, ground := Ground.phase }, { on := 4, ground := Ground.phase }, { on := 5, ground := Ground.phase }, { on := 6, ground := Ground.phase }, { on := 7, ground := Ground.phase }, { on := 8, ground := Ground.phase }, { on := 9, ground := Ground.phase }, { on := 10, ground := Ground.phase }, { on := 11, ground := Ground.phase }, { on := 12, ground := Ground.phase }], guard := none }) (by kernel_rfl) rfl (by rfl) (fun w0 hO hX K hK => ?_)
  (have hF := hO; (try simp only [Own, Item.Holds, apartI, CellsAt, Nat.reduceAdd, Nat.zero_add, List.mem_cons, List.not_mem_nil, or_false, forall_eq_or_imp, forall_eq, ne_eq, false_imp_iff, implies_true, and_true] at hF))
  have d0 := hO.row_cell (pcC_at HX1.out).1
  have d1 := hO.row_cell (pcC_at HX1.out).2.1
  have d2 := hO.row_cell (pcC_at HX1.out).2.2
  have f0 := hO.row_free ((k + 1) * 3)
  have f1 := hO.row_free ((k + 1) * 3 + 1)
  have f2 := hO.row_free ((k + 1) * 3 + 2)
  go_simp
  apply hK _ _ _ (fun _ => True)
  · exact Own.cast (((hO.row_set ((k + 1) * 3) (.int .i64 p.s)).row_set ((k + 1) * 3 + 1) (.int .i64 p.a)).row_set ((k + 1) * 3 + 2) (.int .i64 p.o)) (by rw [HP1.out, HL2.out])
  · exact trivial
  · exact XStab.true
  · exact fun h => absurd h (by decide)
  clear d0 d1 d2 f0 f1 f2 hO hF
  clear hK K
  try simp only [Act.put, List.setIfInBounds_toArray, List.set_cons_zero, List.set_cons_succ]
  refine Sim.done (by kernel_rfl) (fun w1 hO hX => ?_) _
  (try simp only [World.size_alloc1, World.size_drew, Nat.reduceAdd] at hO); (try simp only [upd, updI, List.map_cons, List.map_nil, eq_self, if_true, if_false, reduceIte, Nat.add_eq_left, Nat.left_eq_add, Nat.reduceEqDiff, List.set_cons_zero, List.set_cons_succ] at hO)
  have hF := hO; (try simp only [Own, Item.Holds, apartI, CellsAt, Nat.reduceAdd, Nat.zero_add, List.mem_cons, List.not_mem_nil, or_false, forall_eq_or_imp, forall_eq, ne_eq, false_imp_iff, implies_true, and_true] at hF)
  rotate_left 1
  all_goals
    go_wp2_with fail
    apply own_code hO
    (repeat (first | (with_reducible exact hO) | (with_reducible apply Own.alloc) | (with_reducible apply Own.drew) | ((with_reducible apply Own.set_at); (focus (show _ ≤ _; omega)))))
    have hG := hF; clear hF; clear hO; intro hO
    (try simp only [World.size_alloc1, World.size_drew, Nat.reduceAdd] at hO); (try simp only [upd, updI, List.map_cons, List.map_nil, eq_self, if_true, if_false, reduceIte, Nat.add_eq_left, Nat.left_eq_add, Nat.reduceEqDiff, List.set_cons_zero, List.set_cons_succ, hG] at hO); clear hG
    refine region_own (X := fun _ => True) [] (by kernel_rfl) (hO) (trivial) (by first | exact XStab.true | exact XStab.rd | exact XStab.rdIf) ?_
    clear hO
    refine Sim.sP (i := 0) (d := some 22) (h := ?_)
    refine Sim.sO (i := 1) (d := some 23) (v := ?_) (hy := ?_) (h := ?_)
    rotate_left
    · first | refine Or.inl ⟨by rfl, fun w hO => ?_⟩ | (refine Or.inr ⟨by rfl, ?_⟩; with_reducible rfl)
      first | done | (have hF := hO; (try simp only [Own, Item.Holds, apartI, CellsAt, Nat.reduceAdd, Nat.zero_add, List.mem_cons, List.not_mem_nil, or_false, forall_eq_or_imp, forall_eq, ne_eq, false_imp_iff, implies_true, and_true] at hF); (skip); refine Out.same ?_; go_simp; all_goals with_reducible rfl)
    refine Sim.sP (i := 3) (d := some 25) (h := ?_)
    refine Sim.one' (i := 2) (oi := { dst := some 24, op := Op.call { callee := Callee.value (Operand.func 66), args := #[], argTypes := #[] }, type := 92, pos := "l15_completion.go:82", after := #[], guard := none }) (by kernel_rfl) rfl (by rfl) (fun w0 hO hX K hK => ?_)
    have hF := hO; (try simp only [Own, Item.Holds, apartI, CellsAt, Nat.reduceAdd, Nat.zero_add, List.mem_cons, List.not_mem_nil, or_false, forall_eq_or_imp, forall_eq, ne_eq, false_imp_iff, implies_true, and_true] at hF)
    go_simp
    refine (srI_any _).mono ?_
    rintro e wa ⟨vr, rfl, hrow, hbw⟩
    have hO2 := hO.addRow hbw hrow
    obtain ⟨qr, cr, hvr, _, _⟩ := hO2.row_open (by omega)
    subst hvr
    apply hK _ _ _ (fun _ => True)
    · exact hO2
    · exact trivial
    · exact XStab.true
    · exact fun _ _ h => h.2
    clear hO2 hrow hbw
    clear hK K hF hO
    try simp only [Act.put, List.setIfInBounds_toArray, List.set_cons_zero, List.set_cons_succ]
    refine Sim.sO (i := 4) (d := some 26) (v := ?_) (hy := ?_) (h := ?_)
    rotate_left
    · first | refine Or.inl ⟨by rfl, fun w hO => ?_⟩ | (refine Or.inr ⟨by rfl, ?_⟩; with_reducible rfl)
      first | done | (refine Out.call (f := 64) (args := ?_) ?_ ?_; rotate_left; (focus (go_simp; all_goals with_reducible rfl)); exact HT.out _ hO.base (SlAt.of_row (hO.holds (.row 37 3 (.slice (some ⟨ql, 0, none⟩) N cl) N (pcC l2)) (List.mem_cons_of_mem _ List.mem_cons_self))) _ _ (SlAt.of_row hO.1.1))
    refine Sim.sP (i := 5) (d := some 27) (h := ?_)
    refine Sim.sP (i := 6) (d := some 8) (h := ?_)
    refine Sim.done (by kernel_rfl) (fun w1 hO hX => ?_) _
    (try simp only [World.size_alloc1, World.size_drew, Nat.reduceAdd] at hO); (try simp only [upd, updI, List.map_cons, List.map_nil, eq_self, if_true, if_false, reduceIte, Nat.add_eq_left, Nat.left_eq_add, Nat.reduceEqDiff, List.set_cons_zero, List.set_cons_succ] at hO)
    have hF := hO; (try simp only [Own, Item.Holds, apartI, CellsAt, Nat.reduceAdd, Nat.zero_add, List.mem_cons, List.not_mem_nil, or_false, forall_eq_or_imp, forall_eq, ne_eq, false_imp_iff, implies_true, and_true] at hF)
    go_wp2_with fail
    go_ret
    exact ⟨_, _, rfl, ⟨by first | (rw [HB.out]; done) | (rw [← HB.out]; rfl) | (rw [← HB.out]; simp), by rw [HL2.out]⟩, Own.sub (.cons _ (.cons_cons _ (.cons _ (.cons _ (.cons _ (.refl _)))))) hO⟩
end Go.Proofs.YtieoobanpllmgaaDoor
