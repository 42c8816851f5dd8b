/- Chapter 15 in the program: beginnings of lines counted from the front. -/
import Derived.Test.YtieoobanpllmgaaDoorWalks15G
import Derived.Test.YtieoobanpllmgaaDoorOwnC
import Derived.Test.YtieoobanpllmgaaDoorIntRows
import Derived.Test.YtieoobanpllmgaaDoorRegionD
namespace Go.Proofs.YtieoobanpllmgaaDoor
set_option linter.unusedSimpArgs false
set_option linter.unusedVariables false
set_option maxRecDepth 8000
open Go.RowKit Go.Joins

/-- Choices for N tones, few and valid. -/
structure EsOk (es : List (Value × List Pt)) (N : Nat) : Prop where
  len : es.length = N
  few : ∀ p ∈ es, p.2.length ≤ 63
  pv : ∀ p ∈ es, ∀ x ∈ p.2, pvP x = true
theorem EsOk.get {es : List (Value × List Pt)} {N k : Nat} (h : EsOk es N) (hk : k < N) : ∃ v A, es[k]? = some (v, A) ∧ cQ (lsO es) k = A ∧ A.length ≤ 63 ∧ ∀ x ∈ A, pvP x = true := by
  obtain ⟨⟨v, A⟩, hp⟩ : ∃ p, es[k]? = some p := ⟨_, List.getElem?_eq_getElem (by have := h.len; omega)⟩
  have hm := List.mem_of_getElem? hp
  exact ⟨v, A, hp, cQ_at (by rw [List.getElem?_map, hp]; rfl), h.few _ hm, h.pv _ hm⟩
theorem EsOk.c63 {es : List (Value × List Pt)} {N : Nat} (h : EsOk es N) (k : Nat) : (cQ (lsO es) k).length ≤ 63 := by
  by_cases hk : k < N
  · obtain ⟨v, A, _, h2, h3, _⟩ := h.get hk
    rw [h2]; exact h3
  · unfold cQ
    rw [List.getD_eq_getElem?_getD, List.getElem?_eq_none (by rw [List.length_map, h.len]; omega)]
    exact Nat.zero_le _
theorem mem_rwP15 {es : List (Value × List Pt)} {k : Nat} {v : Value} {A : List Pt} (h : es[k]? = some (v, A)) : Item.row 37 3 v A.length (pcC A) ∈ rwP es := List.mem_map_of_mem (f := fun p : Value × List Pt => Item.row 37 3 p.1 p.2.length (pcC p.2)) (List.mem_of_getElem? h)
theorem vs_at15 {es : List (Value × List Pt)} {k : Nat} {v : Value} {A : List Pt} (h : es[k]? = some (v, A)) : (vsO es)[k]? = some v := by
  rw [List.getElem?_map, h]; rfl
theorem slat_blk15 {n : Nat} {B : World → Prop} {w : World} {b : Nat} {u : Value} {L : List Item} (h : Own n B w (.blk b [u] :: L)) : SlAt w (.slice (some ⟨b, 0, none⟩) 1 1) 1 1 [u] := by
  refine ⟨rfl, .inr ⟨b, 0, 1, rfl, Nat.le_refl _, by unfold maxLen; omega, h.1.1.2.2, fun j v hj => ?_⟩⟩
  cases j with
  | zero =>
    cases hj
    exact own_blk15 h List.mem_cons_self rfl
  | succ j => simp at hj

set_option maxRecDepth 20000 in
set_option maxHeartbeats 16000000 in
theorem plI_own {n : Nat} {B : World → Prop} {w : World} {Rr : List Item} {f : Int} {va vE : Value} {c l : List Pt} {N k m1 : Nat} {es : List (Value × List Pt)} (ql cl qc cc : Nat) (hB : ∀ W, B W → CtAt W f va c N) (hl : l.length = N) (pl : ∀ x ∈ l, pvP x = true) (hes : EsOk es N) (hk : k + 1 < N) (hm1 : (cQ (lsO es) (k + 1)).length = m1)
    (hO : Own n B w (.row 37 3 (.slice (some ⟨ql, 0, none⟩) N cl) N (pcC l) :: .row 3 1 vE (cQ (lsO es) k).length (intC (fwR (lsO es) c k)) :: .row 23 1 (.slice (some ⟨qc, 0, none⟩) N cc) N (vsO es) :: (rwP es ++ Rr))) :
    Calls Tryd.prog 54 #[.agg #[.int .i64 f, va, .slice (some ⟨ql, 0, none⟩) N cl, .slice (some ⟨qc, 0, none⟩) N cc], .int .i64 ((k : Int) + 1), vE] w (OwnOut n B fun v L' => ∃ l', (l'.length = N ∧ ∀ x ∈ l', pvP x = true) ∧ L' = .row 3 1 v m1 (intC (fwR (lsO es) c (k + 1))) :: .row 37 3 (.slice (some ⟨ql, 0, none⟩) N cl) N (pcC l') :: .row 3 1 vE (cQ (lsO es) k).length (intC (fwR (lsO es) c k)) :: .row 23 1 (.slice (some ⟨qc, 0, none⟩) N cc) N (vsO es) :: (rwP es ++ Rr)) := by
  obtain ⟨i0, hi0, hz0, hz1, hz2⟩ := info_parts infoI10
  have hn10 := (hB _ hO.base).n10
  have hcl := (hB _ hO.base).hc
  obtain ⟨A, ca, hva, _, hA⟩ := (hB _ hO.base).sc.open
  obtain ⟨b1, o1, hA1, hca1, hca2, g1⟩ := hA (by omega)
  subst hA1 hva
  obtain ⟨v1, A1, hv1, hA1, h631, hpv1⟩ := hes.get hk
  obtain ⟨v0, A0, hv0, hA0, h630, hpv0⟩ := hes.get (k := k) (by omega)
  rw [hA1] at hm1
  obtain ⟨m0, hm0⟩ : ∃ m, A0.length = m := ⟨_, rfl⟩
  rw [hA0, hm0] at hO ⊢
  obtain ⟨R, hR⟩ : ∃ R, fwR (lsO es) c (k + 1) = R := ⟨_, rfl⟩
  obtain ⟨E, hE⟩ : ∃ R, fwR (lsO es) c k = R := ⟨_, rfl⟩
  obtain ⟨vs, hvs⟩ : ∃ R, vsO es = R := ⟨_, rfl⟩
  obtain ⟨RW, hRW⟩ : ∃ R, rwP es ++ Rr = R := ⟨_, rfl⟩
  have HRL := hid (show R.length = m1 by rw [← hR, fwR_len, hA1]; exact hm1)
  have HV1 := hid (show vs[k + 1]? = some v1 by rw [← hvs]; exact vs_at15 hv1)
  have HV0 := hid (show vs[k]? = some v0 by rw [← hvs]; exact vs_at15 hv0)
  have HW1 := hid (show Item.row 37 3 v1 m1 (pcC A1) ∈ RW by rw [← hRW, ← hm1]; exact List.mem_append_left _ (mem_rwP15 hv1))
  have HW0 := hid (show Item.row 37 3 v0 m0 (pcC A0) ∈ RW by rw [← hRW, ← hm0]; exact List.mem_append_left _ (mem_rwP15 hv0))
  have HP1 := hid hpv1
  have HP0 := hid hpv0
  have HM := hid (And.intro hm1 hm0)
  have HRA := hid (fun (i : Nat) (q : Pt) (h : A1[i]? = some q) => show R[i]? = some (fwK (lsO es) c (k + 1) q : Int) by rw [← hR]; exact fwR_at (by rw [hA1]; exact h))
  have HEA := hid (fun (j : Nat) (q : Pt) (h : A0[j]? = some q) => show E[j]? = some (fwK (lsO es) c k q : Int) by rw [← hE]; exact fwR_at (by rw [hA0]; exact h))
  have HFN := hid (fun (q : Pt) => fwK_num (c := c) hes.c63 (k := k) (by omega) q)
  have HPN := hid (fun (q : Pt) (j : Nat) => fpK_num (c := c) hes.c63 (k := k) (by omega) q j)
  have HFF := hid (fun (q : Pt) => show fpK (lsO es) c k q m0 = fwK (lsO es) c (k + 1) q by have := fpK_full (lsO es) c k q; rwa [hA0, hm0] at this)
  have HFU := hid (fun (q o : Pt) (j : Nat) (h : A0[j]? = some o) => fpK_up (CC := lsO es) (c := c) (k := k) (q := q) (p := o) (j := j) (by rw [hA0]; exact h))
  obtain ⟨x, hx⟩ : ∃ x, c[k]? = some x := ⟨_, List.getElem?_eq_getElem (by omega)⟩
  obtain ⟨y, hy⟩ : ∃ x, c[k + 1]? = some x := ⟨_, List.getElem?_eq_getElem (by omega)⟩
  have HX := hid hx
  have HY := hid hy
  have HB := hid hB
  have HL := hid (And.intro hl pl)
  rw [hR]
  rw [hE, hvs, hRW] at hO ⊢
  obtain ⟨Av1, cv1, hvf1⟩ := (own_slat15 hO (List.mem_cons_of_mem _ (List.mem_cons_of_mem _ (List.mem_cons_of_mem _ HW1.out)))).form
  obtain ⟨Av0, cv0, hvf0⟩ := (own_slat15 hO (List.mem_cons_of_mem _ (List.mem_cons_of_mem _ (List.mem_cons_of_mem _ HW0.out)))).form
  subst hvf1 hvf0
  obtain ⟨AvE, cvE, hvfE⟩ := (own_slat15 hO (List.mem_cons_of_mem _ List.mem_cons_self)).form
  subst hvfE
  have e1 := own_mem15 hO (List.mem_cons_of_mem _ (List.mem_cons_of_mem _ List.mem_cons_self)) HV1.out
  have e0 := own_mem15 hO (List.mem_cons_of_mem _ (List.mem_cons_of_mem _ List.mem_cons_self)) HV0.out
  have hqc := (hO.lt _ (List.mem_cons_of_mem _ (List.mem_cons_of_mem _ List.mem_cons_self)) qc rfl).2
  have k0 : (0 : Int) ≤ (k : Int) := by omega
  have k1 : (k : Int) < (N : Int) := by omega
  have k2 : (0 : Int) ≤ (k : Int) + 1 := by omega
  have k3 : (k : Int) + 1 < (N : Int) := by omega
  have wk : IntKind.i64.wrap ((k : Int) + 1 - 1) = (k : Int) := by rw [show (k : Int) + 1 - 1 = (k : Int) by omega]; exact IntWalk.i64_in _ (by omega)
  have wk2 : IntKind.i64.wrap (k : Int) = (k : Int) := IntWalk.i64_in _ (by omega)
  have tk : ((k : Int) + 1).toNat = k + 1 := by omega
  have hm163 : m1 ≤ 63 := by omega
  have hm063 : m0 ≤ 63 := by omega
  clear hA hv1 hv0 hA1 hA0 hm1 hm0 hR hE hvs hRW hx hy hB hl pl hpv1 hpv0 h631 h630 hcl
  have hF := True.intro
  go_enter Tryd.func54, Tryd.ntmps54
  go_wp2_with (at_make; refine wpList_make_item rfl _ _ 60 rfl 3 i0 (.int .i64 0) 1 8 Tryd.underlying60 hi0 hz0 hz1 hz2 _ _ _ _ m1 rfl rfl rfl rfl (by omega) (by unfold maxLen; omega) (by (repeat (first | (with_reducible exact hO) | (with_reducible apply Own.alloc) | (with_reducible apply Own.drew) | ((with_reducible apply Own.set_at); (focus (show _ ≤ _; omega)))))) ?_; clear hO hF e1 e0; intro qg w4 hO; rw [madeI15] at hO; have hF := hO; (try simp only [Own, Item.Holds, apartI, CellsAt, Nat.reduceAdd, Nat.zero_add, List.mem_cons, List.not_mem_nil, or_false, forall_eq_or_imp, forall_eq, ne_eq, false_imp_iff, implies_true, and_true] at hF); have e1 := own_mem15 hO (List.mem_cons_of_mem _ (List.mem_cons_of_mem _ (List.mem_cons_of_mem _ (List.mem_cons_of_mem _ List.mem_cons_self)))) HV1.out)
  obtain ⟨qb, hqb⟩ : ∃ q, w.heap.size = q := ⟨_, rfl⟩
  rw [hqb] at hO ⊢
  clear hqb hF e1
  rw [show List.replicate m1 (0 : Int) = frL R 0 by rw [fr_zero, HRL.out]] at hO
  go_loopw [25] (fun s wr => ∃ (i : Nat) (l' : List Pt), i ≤ m1 ∧ s = .int .i64 i ∧ Hid (l'.length = N ∧ ∀ x ∈ l', pvP x = true) ∧ Own n B wr (.row 3 1 (.slice (some ⟨qg, 0, none⟩) m1 m1) m1 (intC (frL R i)) :: .blk qb [.int .i64 f, .slice (some ⟨b1, o1, none⟩) N ca, .slice (some ⟨ql, 0, none⟩) N cl, .slice (some ⟨qc, 0, none⟩) N cc] :: .row 37 3 (.slice (some ⟨ql, 0, none⟩) N cl) N (pcC l') :: .row 3 1 (.slice AvE m0 cvE) m0 (intC E) :: .row 23 1 (.slice (some ⟨qc, 0, none⟩) N cc) N vs :: RW)) (fun s _ => m1 - (intOf s).toNat)
  case atStart => exact ⟨0, l, by omega, rfl, HL.out, hO⟩
  case round =>
    clear hO
    obtain ⟨i, l', hi, rfl, hl, hO⟩ := hrel
    have hF := True.intro
    have hF := hO; (try simp only [Own, Item.Holds, apartI, CellsAt, Nat.reduceAdd, Nat.zero_add, List.mem_cons, List.not_mem_nil, or_false, forall_eq_or_imp, forall_eq, ne_eq, false_imp_iff, implies_true, and_true] at hF)
    have e0 := own_mem15 hO (List.mem_cons_of_mem _ (List.mem_cons_of_mem _ (List.mem_cons_of_mem _ (List.mem_cons_of_mem _ List.mem_cons_self)))) HV0.out
    have hqc := (hO.lt _ (List.mem_cons_of_mem _ (List.mem_cons_of_mem _ (List.mem_cons_of_mem _ (List.mem_cons_of_mem _ List.mem_cons_self)))) qc rfl).2
    by_cases he : i = m1
    · subst he
      have HFR := hid (show frL R i = R by have := fr_full R; rwa [HRL.out] at this)
      rw [HFR.out] at hO
      go_wp2_with fail
      go_ret
      exact ⟨_, _, rfl, ⟨l', hl.out, rfl⟩, Own.sub (.cons_cons _ (.cons _ (.refl _))) hO⟩
    · have hil : i < m1 := by omega
      have hil2 : (i : Int) < (m1 : Int) := by omega
      have hi0' : (0 : Int) ≤ (i : Int) := by omega
      obtain ⟨q9, cap9, hv9, hq9, hq8⟩ := own_form15 hO (List.mem_cons_of_mem _ (List.mem_cons_of_mem _ (List.mem_cons_of_mem _ (List.mem_cons_of_mem _ (List.mem_cons_of_mem _ HW1.out))))) (by omega)
      cases hv9
      have hq7 : cv1 ≤ 9223372036854775807 := by unfold maxLen at hq8; omega
      clear hq8
      obtain ⟨q, hq⟩ : ∃ x, A1[i]? = some x := ⟨_, List.getElem?_eq_getElem (by have := HM.out.1; omega)⟩
      have p0 := own_mem15 hO (List.mem_cons_of_mem _ (List.mem_cons_of_mem _ (List.mem_cons_of_mem _ (List.mem_cons_of_mem _ (List.mem_cons_of_mem _ HW1.out))))) (pcC_at hq).1
      have p1 := own_mem15 hO (List.mem_cons_of_mem _ (List.mem_cons_of_mem _ (List.mem_cons_of_mem _ (List.mem_cons_of_mem _ (List.mem_cons_of_mem _ HW1.out))))) (pcC_at hq).2.1
      have p2 := own_mem15 hO (List.mem_cons_of_mem _ (List.mem_cons_of_mem _ (List.mem_cons_of_mem _ (List.mem_cons_of_mem _ (List.mem_cons_of_mem _ HW1.out))))) (pcC_at hq).2.2
      have HQV := hid (HP1.out q (List.mem_of_getElem? hq))
      have HRI := hid (HRA.out i q hq)
      clear hq he
      go_wp2_with fail
      clear hF
      have hO2 := hO.alloc (t := 37) (vs := [.int .i64 q.s, .int .i64 q.a, .int .i64 q.o])
      clear hO p0 p1 p2 e0
      obtain ⟨qp, hqp⟩ : ∃ q, wr.heap.size = q := ⟨_, rfl⟩
      rw [hqp] at hO2 ⊢
      clear hqp hqc
      have HSET := hid (show (frL R i).set i (fwK (lsO es) c (k + 1) q : Int) = frL R (i + 1) from fr_set HRI.out)
      have HZ := hid (show (frL R i).set i (fpK (lsO es) c k q 0 : Int) = frL R i by
        rw [fpK_zero]
        refine List.ext_getElem? fun j => ?_
        by_cases hj : i = j
        · subst hj
          rw [List.getElem?_set_self (by rw [fr_len (by have := HRL.out; omega)]; have := HRL.out; omega), fr_at (by have := HRL.out; omega)]; rfl
        · rw [List.getElem?_set_ne hj])
      go_loopw [37] (fun s wr => ∃ (j : Nat) (l' : List Pt), j ≤ m0 ∧ s = .int .i64 j ∧ Hid (l'.length = N ∧ ∀ x ∈ l', pvP x = true) ∧ Own n B wr (.row 3 1 (.slice (some ⟨qg, 0, none⟩) m1 m1) m1 (intC ((frL R i).set i (fpK (lsO es) c k q j : Int))) :: .blk qp [.int .i64 q.s, .int .i64 q.a, .int .i64 q.o] :: .blk qb [.int .i64 f, .slice (some ⟨b1, o1, none⟩) N ca, .slice (some ⟨ql, 0, none⟩) N cl, .slice (some ⟨qc, 0, none⟩) N cc] :: .row 37 3 (.slice (some ⟨ql, 0, none⟩) N cl) N (pcC l') :: .row 3 1 (.slice AvE m0 cvE) m0 (intC E) :: .row 23 1 (.slice (some ⟨qc, 0, none⟩) N cc) N vs :: RW)) (fun s _ => m0 - (intOf s).toNat)
      case atStart => exact ⟨0, l', by omega, rfl, hl.out, by rw [HZ.out]; exact hO2.perm (List.Perm.swap _ _ _)⟩
      case round =>
        clear hO2 hl
        obtain ⟨j, l2, hj, rfl, hl, hO⟩ := hrel
        have hF := True.intro
        have hF := hO; (try simp only [Own, Item.Holds, apartI, CellsAt, Nat.reduceAdd, Nat.zero_add, List.mem_cons, List.not_mem_nil, or_false, forall_eq_or_imp, forall_eq, ne_eq, false_imp_iff, implies_true, and_true] at hF)
        by_cases he : j = m0
        · subst he
          go_wp2_with fail
          go_roundw
          case rel => exact ⟨i + 1, l2, by omega, by go_num, hl.out, by
            rw [← HSET.out, ← HFF.out]
            exact Own.sub (.cons_cons _ (.cons _ (.refl _))) hO⟩
          case measure => simp [intOf] <;> omega
        · have hjl : j < m0 := by omega
          have hjl2 : (j : Int) < (m0 : Int) := by omega
          have hj0' : (0 : Int) ≤ (j : Int) := by omega
          have HW0m := hid (fun (X : List Item) => List.mem_append_right X HW0.out)
          obtain ⟨q8, cap8, hv8, hq9, hq8⟩ := own_form15 hO (List.mem_cons_of_mem _ (List.mem_cons_of_mem _ (List.mem_cons_of_mem _ (List.mem_cons_of_mem _ (List.mem_cons_of_mem _ (List.mem_cons_of_mem _ HW0.out)))))) (by omega)
          cases hv8
          have hq5 : cv0 ≤ 9223372036854775807 := by unfold maxLen at hq8; omega
          obtain ⟨qe, cape, hve, hqe, hqe8⟩ := own_form15 hO (List.mem_cons_of_mem _ (List.mem_cons_of_mem _ (List.mem_cons_of_mem _ (List.mem_cons_of_mem _ List.mem_cons_self)))) (by omega)
          cases hve
          have hqe5 : cvE ≤ 9223372036854775807 := by unfold maxLen at hqe8; omega
          clear hq8 hqe8
          obtain ⟨o, ho⟩ : ∃ x, A0[j]? = some x := ⟨_, List.getElem?_eq_getElem (by have := HM.out.2; omega)⟩
          have p0 := own_mem15 hO (List.mem_cons_of_mem _ (List.mem_cons_of_mem _ (List.mem_cons_of_mem _ (List.mem_cons_of_mem _ (List.mem_cons_of_mem _ (List.mem_cons_of_mem _ HW0.out)))))) (pcC_at ho).1
          have p1 := own_mem15 hO (List.mem_cons_of_mem _ (List.mem_cons_of_mem _ (List.mem_cons_of_mem _ (List.mem_cons_of_mem _ (List.mem_cons_of_mem _ (List.mem_cons_of_mem _ HW0.out)))))) (pcC_at ho).2.1
          have p2 := own_mem15 hO (List.mem_cons_of_mem _ (List.mem_cons_of_mem _ (List.mem_cons_of_mem _ (List.mem_cons_of_mem _ (List.mem_cons_of_mem _ (List.mem_cons_of_mem _ HW0.out)))))) (pcC_at ho).2.2
          have HOV := hid (HP0.out o (List.mem_of_getElem? ho))
          have HEJ := hid (HEA.out j o ho)
          have HUP := hid (HFU.out q o j ho)
          obtain ⟨b, hb⟩ : ∃ b, (twoZ x o y q == 0) = b := ⟨_, rfl⟩
          have HFO := hid (fun (W : World) (L : List Item) (hW : Own n B W (.row 37 3 (.slice (some ⟨ql, 0, none⟩) N cl) N (pcC l2) :: L)) => folI_own ql cl qc cc HB.out hl.out.1 hl.out.2 HX.out HY.out HOV.out HQV.out hb hW)
          have HTW := hid (show (if twoZ (cD c k) o (cD c (k + 1)) q = 0 then fwK (lsO es) c k o else 0) = if b = true then fwK (lsO es) c k o else 0 by rw [cD_at HX.out, cD_at HY.out, ← hb]; simp)
          have HL2 := hid (show ((l2.set k o).set (k + 1) q).length = N ∧ ∀ x ∈ (l2.set k o).set (k + 1) q, pvP x = true from ⟨by rw [List.length_set, List.length_set]; exact hl.out.1, pl_set (pl_set hl.out.2 HOV.out) HQV.out⟩)
          have b7 := HPN.out q j
          have b8 := HFN.out o
          obtain ⟨g, hg⟩ : ∃ g : Int, (fpK (lsO es) c k q j : Int) = g := ⟨_, rfl⟩
          obtain ⟨h, hh⟩ : ∃ g : Int, (fwK (lsO es) c k o : Int) = g := ⟨_, rfl⟩
          have g0 : 0 ≤ g := by omega
          have h0 : 0 ≤ h := by omega
          have HG := hid hg
          have HH := hid hh
          rw [hg] at b7 hO
          rw [hh] at b8 HEJ
          have wg : IntKind.i64.wrap (g + h) = g + h := IntWalk.i64_in _ (by omega)
          clear he ho hb hg hh
          cases b
          · have HN := hid (show (fpK (lsO es) c k q (j + 1) : Int) = g by rw [HUP.out, HTW.out, if_neg (by decide), ← HG.out]; omega)
            go_wp2_with (go_at_call 71; apply own_at hO; (repeat (first | (with_reducible exact hO) | (with_reducible apply Own.alloc) | (with_reducible apply Own.drew) | ((with_reducible apply Own.set_at); (focus (show _ ≤ _; omega))))); have hG := hF; clear hF; clear hO; intro hO; (try simp only [World.size_alloc1, World.size_drew, Nat.reduceAdd] at hO); (try simp only [upd, updI, List.map_cons, List.map_nil, eq_self, if_true, if_false, reduceIte, Nat.add_eq_left, Nat.left_eq_add, Nat.reduceEqDiff, List.set_cons_zero, List.set_cons_succ, hG] at hO); clear hG; replace hO := hO.perm (List.perm_middle (l₁ := [_, _, _, _])); simp only [List.cons_append, List.nil_append] at hO; refine own_callE hO (fun hW => HFO.out _ _ hW) ?_; clear hO; rintro v L' w1 ⟨rfl, rfl⟩ hO; (try simp only [World.size_alloc1, World.size_drew, Nat.reduceAdd] at hO); (try simp only [upd, updI, List.map_cons, List.map_nil, eq_self, if_true, if_false, reduceIte, Nat.add_eq_left, Nat.left_eq_add, Nat.reduceEqDiff, List.set_cons_zero, List.set_cons_succ] at hO); have hF := hO; (try simp only [Own, Item.Holds, apartI, CellsAt, Nat.reduceAdd, Nat.zero_add, List.mem_cons, List.not_mem_nil, or_false, forall_eq_or_imp, forall_eq, ne_eq, false_imp_iff, implies_true, and_true] at hF))
            go_roundw
            case rel => exact ⟨j + 1, (l2.set k o).set (k + 1) q, by omega, by go_num, HL2.out, by
              rw [HN.out]
              exact (Own.sub (.cons_cons _ (.cons _ (.refl _))) hO).perm (List.perm_middle (l₁ := [_, _, _])).symm⟩
            case measure => simp [intOf] <;> omega
          · have HN := hid (show (fpK (lsO es) c k q (j + 1) : Int) = g + h by rw [HUP.out, HTW.out, if_pos rfl, ← HG.out, ← HH.out]; omega)
            have HPT := hid (intC_get (fr_put (z := g) (R := R) (i := i) (by have := HRL.out; omega)))
            have HPE := hid (intC_get HEJ.out)
            go_wp2_with (go_at_call 71; apply own_at hO; (repeat (first | (with_reducible exact hO) | (with_reducible apply Own.alloc) | (with_reducible apply Own.drew) | ((with_reducible apply Own.set_at); (focus (show _ ≤ _; omega))))); have hG := hF; clear hF; clear hO; intro hO; (try simp only [World.size_alloc1, World.size_drew, Nat.reduceAdd] at hO); (try simp only [upd, updI, List.map_cons, List.map_nil, eq_self, if_true, if_false, reduceIte, Nat.add_eq_left, Nat.left_eq_add, Nat.reduceEqDiff, List.set_cons_zero, List.set_cons_succ, hG] at hO); clear hG; replace hO := hO.perm (List.perm_middle (l₁ := [_, _, _, _])); simp only [List.cons_append, List.nil_append] at hO; refine own_callE hO (fun hW => HFO.out _ _ hW) ?_; clear hO; rintro v L' w1 ⟨rfl, rfl⟩ hO; (try simp only [World.size_alloc1, World.size_drew, Nat.reduceAdd] at hO); (try simp only [upd, updI, List.map_cons, List.map_nil, eq_self, if_true, if_false, reduceIte, Nat.add_eq_left, Nat.left_eq_add, Nat.reduceEqDiff, List.set_cons_zero, List.set_cons_succ] at hO); have hF := hO; (try simp only [Own, Item.Holds, apartI, CellsAt, Nat.reduceAdd, Nat.zero_add, List.mem_cons, List.not_mem_nil, or_false, forall_eq_or_imp, forall_eq, ne_eq, false_imp_iff, implies_true, and_true] at hF))
            apply own_code hO
            (repeat (first | (with_reducible exact hO) | (with_reducible apply Own.alloc) | (with_reducible apply Own.drew) | ((with_reducible apply Own.set_at); (focus (show _ ≤ _; omega)))))
            have hG := hF; clear hF; clear hO; intro hO
            (try simp only [World.size_alloc1, World.size_drew, Nat.reduceAdd] at hO); (try simp only [upd, updI, List.map_cons, List.map_nil, eq_self, if_true, if_false, reduceIte, Nat.add_eq_left, Nat.left_eq_add, Nat.reduceEqDiff, List.set_cons_zero, List.set_cons_succ, hG] at hO); clear hG
            refine region_own (X := fun _ => True) [10] (by kernel_rfl) (hO) (trivial) (by first | exact XStab.true | exact XStab.rd | exact XStab.rdIf) ?_
            clear hO
            refine Sim.sP (i := 0) (d := some 47) (h := ?_)
            refine Sim.sP (i := 1) (d := some 48) (h := ?_)
            refine Sim.sP (i := 2) (d := some 49) (h := ?_)
            refine Sim.sO (i := 3) (d := some 50) (v := ?_) (hy := ?_) (h := ?_)
            rotate_left
            · first | refine Or.inl ⟨by rfl, fun w hO => ?_⟩ | (refine Or.inr ⟨by rfl, ?_⟩; with_reducible rfl)
              first | done | (skip; ((have c0 := own_mem15 (q := qg) (e := 3) (size := 1) (k := m1) (cap := m1) (xs := intC ((frL R i).set i g)) (i := i) hO (by simp) HPT.out; have c1 := own_mem15 (q := qe) (e := 3) (size := 1) (k := m0) (cap := cvE) (xs := intC E) (i := j) hO (by simp) HPE.out)); refine Out.same ?_; go_simp; all_goals with_reducible rfl)
            refine Sim.sP (i := 4) (d := some 51) (h := ?_)
            refine Sim.sP (i := 5) (d := some 52) (h := ?_)
            refine Sim.sP (i := 6) (d := some 53) (h := ?_)
            refine Sim.sO (i := 7) (d := some 54) (v := ?_) (hy := ?_) (h := ?_)
            rotate_left
            · first | refine Or.inl ⟨by rfl, fun w hO => ?_⟩ | (refine Or.inr ⟨by rfl, ?_⟩; with_reducible rfl)
              first | done | (skip; ((have c0 := own_mem15 (q := qg) (e := 3) (size := 1) (k := m1) (cap := m1) (xs := intC ((frL R i).set i g)) (i := i) hO (by simp) HPT.out; have c1 := own_mem15 (q := qe) (e := 3) (size := 1) (k := m0) (cap := cvE) (xs := intC E) (i := j) hO (by simp) HPE.out)); refine Out.same ?_; go_simp; all_goals with_reducible rfl)
            refine Sim.sP (i := 8) (d := some 55) (h := ?_)
            refine Sim.sP (i := 9) (d := some 56) (h := ?_)
            refine Sim.one' (i := 10) (oi := { dst := none, op := Op.store 3 (Operand.tmp 56) (Operand.tmp 55), type := 0, pos := "l15_completion.go:104", after := #[{ on := 9, ground := Ground.data }, { on := 8, ground := Ground.data }, { on := 0, ground := Ground.phase }, { on := 1, ground := Ground.phase }, { on := 2, ground := Ground.phase }, { on := 3, ground := Ground.phase }, { on := 4, ground := Ground.phase }, { on := 5, ground := Ground.phase }, { on := 6, ground := Ground.phase }, { on := 7, ground := Ground.phase }, { on := 8, ground := Ground.phase }], guard := none }) (by kernel_rfl) rfl (by rfl) (fun w0 hO hX K hK => ?_)
            (have hF := hO; (try simp only [Own, Item.Holds, apartI, CellsAt, Nat.reduceAdd, Nat.zero_add, List.mem_cons, List.not_mem_nil, or_false, forall_eq_or_imp, forall_eq, ne_eq, false_imp_iff, implies_true, and_true] at hF))
            replace hO := hO.perm (List.perm_middle (l₁ := [_, _]))
            simp only [List.cons_append, List.nil_append] at hO
            have c0 := hO.row_cell HPT.out
            have f0 := hO.row_free i
            go_simp
            apply hK _ _ _ (fun _ => True)
            · exact hO.row_set i (.int .i64 (g + h))
            · exact trivial
            · exact XStab.true
            · exact fun h => absurd h (by decide)
            clear hO hF c0 f0
            clear hK K
            try simp only [Act.put, List.setIfInBounds_toArray, List.set_cons_zero, List.set_cons_succ]
            refine Sim.done (by kernel_rfl) (fun w1 hO hX => ?_) _
            (try simp only [World.size_alloc1, World.size_drew, Nat.reduceAdd] at hO); (try simp only [upd, updI, List.map_cons, List.map_nil, eq_self, if_true, if_false, reduceIte, Nat.add_eq_left, Nat.left_eq_add, Nat.reduceEqDiff, List.set_cons_zero, List.set_cons_succ] at hO)
            have hF := hO; (try simp only [Own, Item.Holds, apartI, CellsAt, Nat.reduceAdd, Nat.zero_add, List.mem_cons, List.not_mem_nil, or_false, forall_eq_or_imp, forall_eq, ne_eq, false_imp_iff, implies_true, and_true] at hF)
            go_wp2_with fail
            go_roundw
            case rel => exact ⟨j + 1, (l2.set k o).set (k + 1) q, by omega, by go_num, HL2.out, by
              rw [HN.out]
              rw [nt_set, List.set_set] at hO
              exact (Own.sub (.cons_cons _ (.cons_cons _ (.cons _ (.refl _)))) hO).perm (List.Perm.cons _ (List.perm_middle (l₁ := [_, _])).symm)⟩
            case measure => simp [intOf] <;> omega

/- Chapter 15 in the program: the lines that can be made of choices are counted; one tone more is settled. -/
open Go.RowKit Go.Joins

theorem slat_blkE15 {n : Nat} {B : World → Prop} {w : World} {b b' : Nat} {u : Value} {L : List Item} (h : Own n B w (.blk b [u] :: L)) (e : b = b') : SlAt w (.slice (some ⟨b', 0, none⟩) 1 1) 1 1 [u] := by
  subst e
  exact slat_blk15 h

set_option maxRecDepth 20000 in
set_option maxHeartbeats 16000000 in
theorem coI_own {n : Nat} {B : World → Prop} {w : World} {Rr : List Item} {f : Int} {va : Value} {c l : List Pt} {N : Nat} {es : List (Value × List Pt)} (ql cl qc cc : Nat) (hB : ∀ W, B W → CtAt W f va c N) (hl : l.length = N) (pl : ∀ x ∈ l, pvP x = true) (hes : EsOk es N)
    (hO : Own n B w (.row 37 3 (.slice (some ⟨ql, 0, none⟩) N cl) N (pcC l) :: .row 23 1 (.slice (some ⟨qc, 0, none⟩) N cc) N (vsO es) :: (rwP es ++ Rr))) :
    Calls Tryd.prog 31 #[.agg #[.int .i64 f, va, .slice (some ⟨ql, 0, none⟩) N cl, .slice (some ⟨qc, 0, none⟩) N cc]] w (OwnOut n B fun v L' => v = .int .i64 (fwZ (lsO es) c : Int) ∧ ∃ l', (l'.length = N ∧ ∀ x ∈ l', pvP x = true) ∧ L' = .row 37 3 (.slice (some ⟨ql, 0, none⟩) N cl) N (pcC l') :: .row 23 1 (.slice (some ⟨qc, 0, none⟩) N cc) N (vsO es) :: (rwP es ++ Rr)) := by
  have hn10 := (hB _ hO.base).n10
  have hn2 := (hB _ hO.base).n2
  have hcl := (hB _ hO.base).hc
  obtain ⟨A, ca, hva, nb, hA⟩ := (hB _ hO.base).sc.open
  obtain ⟨b1, o1, hA1, hca1, hca2, g1⟩ := hA (by omega)
  subst hA1 hva
  obtain ⟨v0, A0, hv0, hA0, h630, hpv0⟩ := hes.get (k := 0) (by omega)
  obtain ⟨m0, hm0⟩ : ∃ m, A0.length = m := ⟨_, rfl⟩
  have hm063 : m0 ≤ 63 := by omega
  have HV0 := hid (vs_at15 hv0)
  have HW0 := hid (show Item.row 37 3 v0 m0 (pcC A0) ∈ rwP es ++ Rr by rw [← hm0]; exact List.mem_append_left _ (mem_rwP15 hv0))
  have HR0 := hid (show List.replicate m0 (1 : Int) = fwR (lsO es) c 0 ∧ (cQ (lsO es) 0).length = m0 by rw [fwR_zero, hA0, hm0]; exact ⟨rfl, rfl⟩)
  obtain ⟨Av0, cv0, hvf0⟩ := (own_slat15 hO (List.mem_cons_of_mem _ (List.mem_cons_of_mem _ HW0.out))).form
  subst hvf0
  have HB := hid hB
  have HL := hid (And.intro hl pl)
  have HES := hid hes
  have HCL := hid hcl
  have HFS := hid (fun (k : Nat) (hk : k + 1 = N) => fsK_full (lsO es) c k (by rw [hcl]; exact hk))
  have e0 := own_mem15 hO (List.mem_cons_of_mem _ List.mem_cons_self) HV0.out
  have hqc := (hO.lt _ (List.mem_cons_of_mem _ List.mem_cons_self) qc rfl).2
  have hn0 : (0 : Int) < (N : Int) := by omega
  have hn00 : 0 < N := by omega
  obtain ⟨vs, hvs⟩ : ∃ R, vsO es = R := ⟨_, rfl⟩
  have HVS := hid hvs
  rw [hvs] at hO HV0 ⊢
  clear hA hv0 hA0 hm0 hB hl pl hpv0 h630 hcl hes hvs
  have hF := True.intro
  go_enter Tryd.func31, Tryd.ntmps31
  go_wp2_with fail
  (go_at_call 53; apply own_at hO; (repeat (first | (with_reducible exact hO) | (with_reducible apply Own.alloc) | (with_reducible apply Own.drew) | ((with_reducible apply Own.set_at); (focus (show _ ≤ _; omega))))); have hG := hF; clear hF; clear hO; intro hO; refine own_call_row hO (fun hB => repI_any _ _ _ (slat_blkE15 hO (by simp)) hm063) ?_; clear hO; intro v w1 hO; (try simp only [World.size_alloc1, World.size_drew, Nat.reduceAdd] at hO); (try simp only [upd, updI, List.map_cons, List.map_nil, eq_self, if_true, if_false, reduceIte, Nat.add_eq_left, Nat.left_eq_add, Nat.reduceEqDiff, List.set_cons_zero, List.set_cons_succ, hG] at hO); clear hG; have hF := hO; (try simp only [Own, Item.Holds, apartI, CellsAt, Nat.reduceAdd, Nat.zero_add, List.mem_cons, List.not_mem_nil, or_false, forall_eq_or_imp, forall_eq, ne_eq, false_imp_iff, implies_true, and_true] at hF))
  go_wp2_with fail
  replace hO := Own.sub (.cons_cons _ (.cons _ (.refl _))) hO
  obtain ⟨qb, hqb⟩ : ∃ q, w.heap.size = q := ⟨_, rfl⟩
  rw [hqb] at hO ⊢
  clear hqb hF e0 hqc
  rw [HR0.out.1] at hO
  go_loopw [3, 4] (fun u s wr => ∃ (k : Nat) (l' : List Pt), k < N ∧ s = .int .i64 ((k : Int) + 1) ∧ Hid (l'.length = N ∧ ∀ x ∈ l', pvP x = true) ∧ Own n B wr (.row 3 1 u (cQ (lsO es) k).length (intC (fwR (lsO es) c k)) :: .blk qb [.int .i64 f, .slice (some ⟨b1, o1, none⟩) N ca, .slice (some ⟨ql, 0, none⟩) N cl, .slice (some ⟨qc, 0, none⟩) N cc] :: .row 37 3 (.slice (some ⟨ql, 0, none⟩) N cl) N (pcC l') :: .row 23 1 (.slice (some ⟨qc, 0, none⟩) N cc) N vs :: (rwP es ++ Rr))) (fun _ s _ => N + 1 - (intOf s).toNat)
  case atStart => exact ⟨0, l, hn00, rfl, HL.out, by rw [HR0.out.2]; exact hO⟩
  case round =>
    clear hO
    obtain ⟨k, l', hk, rfl, hl, hO⟩ := hrel
    have hk63 := HES.out.c63 k
    obtain ⟨mk, hmk⟩ : ∃ m, (cQ (lsO es) k).length = m := ⟨_, rfl⟩
    rw [hmk] at hO hk63
    obtain ⟨Ak, ck, hvk⟩ := (SlAt.of_row hO.1.1).form
    subst hvk
    have k0 : (0 : Int) ≤ (k : Int) := by omega
    have k1 : (k : Int) < (N : Int) := by omega
    have wk : IntKind.i64.wrap ((k : Int) + 1 + 1) = (k : Int) + 1 + 1 := IntWalk.i64_in _ (by omega)
    have HMK := hid hmk
    by_cases he : k + 1 = N
    · have he2 : (k : Int) + 1 = (N : Int) := by omega
      have hnl : ¬ (k : Int) + 1 < (N : Int) := by omega
      have HFZ := hid (show fsK (lsO es) c k mk = fwZ (lsO es) c by rw [← hmk]; exact HFS.out k he)
      have HFU := hid (fun (i : Nat) (p : Pt) (h : (cQ (lsO es) k)[i]? = some p) => fsK_up (CC := lsO es) (c := c) h)
      have HFN := hid (fun (p : Pt) => fwK_num (c := c) HES.out.c63 (k := k) (by omega) p)
      have HSN := hid (fun (i : Nat) => fsK_num (c := c) HES.out.c63 (k := k) (by omega) i)
      have HRA := hid (fun (i : Nat) (p : Pt) (h : (cQ (lsO es) k)[i]? = some p) => fwR_at (CC := lsO es) (c := c) h)
      clear hmk he he2
      have hF := True.intro
      have hF := hO; (try simp only [Own, Item.Holds, apartI, CellsAt, Nat.reduceAdd, Nat.zero_add, List.mem_cons, List.not_mem_nil, or_false, forall_eq_or_imp, forall_eq, ne_eq, false_imp_iff, implies_true, and_true] at hF)
      go_wp2_with fail
      clear hF
      go_loopw [5, 28] (fun u s wr => ∃ i : Nat, i ≤ mk ∧ s = .int .i64 i ∧ u = .int .i64 (fsK (lsO es) c k i : Int) ∧ Own n B wr (.row 3 1 (.slice Ak mk ck) mk (intC (fwR (lsO es) c k)) :: .blk qb [.int .i64 f, .slice (some ⟨b1, o1, none⟩) N ca, .slice (some ⟨ql, 0, none⟩) N cl, .slice (some ⟨qc, 0, none⟩) N cc] :: .row 37 3 (.slice (some ⟨ql, 0, none⟩) N cl) N (pcC l') :: .row 23 1 (.slice (some ⟨qc, 0, none⟩) N cc) N vs :: (rwP es ++ Rr))) (fun _ s _ => mk - (intOf s).toNat)
      case atStart => exact ⟨0, by omega, rfl, by rw [fsK_zero]; rfl, hO⟩
      case round =>
        clear hO
        obtain ⟨i, hi, rfl, rfl, hO⟩ := hrel
        by_cases he : i = mk
        · subst he
          go_wp2_with fail
          go_ret
          exact ⟨_, _, rfl, ⟨by rw [HFZ.out]; rfl, l', hl.out, rfl⟩, Own.sub (.cons _ (.cons _ (.refl _))) hO⟩
        · have hil : i < mk := by omega
          have hil2 : (i : Int) < (mk : Int) := by omega
          have hi0 : (0 : Int) ≤ (i : Int) := by omega
          obtain ⟨q9, cap9, hv9, hq9, hq8⟩ := hO.row_open (by omega)
          cases hv9
          have hq7 : ck ≤ 9223372036854775807 := by unfold maxLen at hq8; omega
          clear hq8
          obtain ⟨p, hp⟩ : ∃ p, (cQ (lsO es) k)[i]? = some p := ⟨_, List.getElem?_eq_getElem (by rw [HMK.out]; exact hil)⟩
          have e0 := hO.row_cell (intC_get (HRA.out i p hp))
          have HU := hid (HFU.out i p hp)
          have b7 := HSN.out i
          have b8 := HFN.out p
          obtain ⟨g, hg⟩ : ∃ g : Int, (fsK (lsO es) c k i : Int) = g := ⟨_, rfl⟩
          obtain ⟨h, hh⟩ : ∃ g : Int, (fwK (lsO es) c k p : Int) = g := ⟨_, rfl⟩
          have g0 : 0 ≤ g := by omega
          have h0 : 0 ≤ h := by omega
          have HN := hid (show (fsK (lsO es) c k (i + 1) : Int) = g + h by rw [HU.out, ← hg, ← hh]; omega)
          rw [hg] at b7 ⊢
          rw [hh] at b8 e0
          have wg : IntKind.i64.wrap (g + h) = g + h := IntWalk.i64_in _ (by omega)
          clear he hp hg hh
          go_wp2_with fail
          go_roundw
          case rel => exact ⟨i + 1, by omega, by go_num, by rw [HN.out], hO⟩
          case measure => simp [intOf] <;> omega
    · have hk1 : k + 1 < N := by omega
      have hk2 : (k : Int) + 1 < (N : Int) := by omega
      have HPL := hid (show ∀ (W : World) (L : List Item), Own n B W (.row 37 3 (.slice (some ⟨ql, 0, none⟩) N cl) N (pcC l') :: .row 3 1 (.slice Ak mk ck) mk (intC (fwR (lsO es) c k)) :: .row 23 1 (.slice (some ⟨qc, 0, none⟩) N cc) N vs :: (rwP es ++ L)) → Calls Tryd.prog 54 #[.agg #[.int .i64 f, .slice (some ⟨b1, o1, none⟩) N ca, .slice (some ⟨ql, 0, none⟩) N cl, .slice (some ⟨qc, 0, none⟩) N cc], .int .i64 ((k : Int) + 1), .slice Ak mk ck] W (OwnOut n B fun v L' => ∃ l2, (l2.length = N ∧ ∀ x ∈ l2, pvP x = true) ∧ L' = .row 3 1 v (cQ (lsO es) (k + 1)).length (intC (fwR (lsO es) c (k + 1))) :: .row 37 3 (.slice (some ⟨ql, 0, none⟩) N cl) N (pcC l2) :: .row 3 1 (.slice Ak mk ck) mk (intC (fwR (lsO es) c k)) :: .row 23 1 (.slice (some ⟨qc, 0, none⟩) N cc) N vs :: (rwP es ++ L)) from fun W L hW => by
        have := plI_own (Rr := L) (vE := .slice Ak mk ck) ql cl qc cc HB.out hl.out.1 hl.out.2 HES.out hk1 rfl (by rw [HMK.out, HVS.out]; exact hW)
        rw [HMK.out, HVS.out] at this
        exact this)
      clear hmk he
      have hF := True.intro
      have hF := hO; (try simp only [Own, Item.Holds, apartI, CellsAt, Nat.reduceAdd, Nat.zero_add, List.mem_cons, List.not_mem_nil, or_false, forall_eq_or_imp, forall_eq, ne_eq, false_imp_iff, implies_true, and_true] at hF)
      go_wp2_with (go_at_call 54; apply own_at hO; (repeat (first | (with_reducible exact hO) | (with_reducible apply Own.alloc) | (with_reducible apply Own.drew) | ((with_reducible apply Own.set_at); (focus (show _ ≤ _; omega))))); have hG := hF; clear hF; clear hO; intro hO; (try simp only [World.size_alloc1, World.size_drew, Nat.reduceAdd] at hO); (try simp only [upd, updI, List.map_cons, List.map_nil, eq_self, if_true, if_false, reduceIte, Nat.add_eq_left, Nat.left_eq_add, Nat.reduceEqDiff, List.set_cons_zero, List.set_cons_succ, hG] at hO); clear hG; replace hO := hO.perm (L' := .row 37 3 (.slice (some ⟨ql, 0, none⟩) N cl) N (pcC l') :: .row 3 1 (.slice Ak mk ck) mk (intC (fwR (lsO es) c k)) :: .row 23 1 (.slice (some ⟨qc, 0, none⟩) N cc) N vs :: (rwP es ++ (.blk qb [.int .i64 f, .slice (some ⟨b1, o1, none⟩) N ca, .slice (some ⟨ql, 0, none⟩) N cl, .slice (some ⟨qc, 0, none⟩) N cc] :: Rr))) (perm_cnt15 fun a => by simp only [List.count_append, List.count_cons]; omega); refine own_callE hO (fun hW => HPL.out _ _ hW) ?_; clear hO; rintro v L' w1 ⟨l2, hl2, rfl⟩ hO; (try simp only [World.size_alloc1, World.size_drew, Nat.reduceAdd] at hO); (try simp only [upd, updI, List.map_cons, List.map_nil, eq_self, if_true, if_false, reduceIte, Nat.add_eq_left, Nat.left_eq_add, Nat.reduceEqDiff, List.set_cons_zero, List.set_cons_succ] at hO); have hF := hO; (try simp only [Own, Item.Holds, apartI, CellsAt, Nat.reduceAdd, Nat.zero_add, List.mem_cons, List.not_mem_nil, or_false, forall_eq_or_imp, forall_eq, ne_eq, false_imp_iff, implies_true, and_true] at hF))
      go_roundw
      case rel => exact ⟨k + 1, l2, hk1, by go_num, hl2, (Own.sub (.cons_cons _ (.cons_cons _ (.cons _ (.refl _)))) hO).perm (perm_cnt15 fun a => by simp only [List.count_append, List.count_cons]; omega)⟩
      case measure => simp [intOf] <;> omega

/- Chapter 15 in the program: one tone more is settled. -/
open Go.RowKit Go.Joins

theorem EsOk.put {U V : List (Value × List Pt)} {v v' : Value} {A A' : List Pt} {N : Nat} (h : EsOk (U ++ (v, A) :: V) N) (hA : A'.length ≤ 63) (hp : ∀ x ∈ A', pvP x = true) : EsOk (U ++ (v', A') :: V) N := by
  refine ⟨by rw [← h.len]; simp, fun p hm => ?_, fun p hm => ?_⟩
  · rcases List.mem_append.1 hm with g | g
    · exact h.few p (List.mem_append_left _ g)
    · rcases List.mem_cons.1 g with rfl | g
      · exact hA
      · exact h.few p (List.mem_append_right _ (List.mem_cons_of_mem _ g))
  · rcases List.mem_append.1 hm with g | g
    · exact h.pv p (List.mem_append_left _ g)
    · rcases List.mem_cons.1 g with rfl | g
      · exact hp
      · exact h.pv p (List.mem_append_right _ (List.mem_cons_of_mem _ g))
theorem ls_set15 {U V : List (Value × List Pt)} {v v' : Value} {A A' : List Pt} {k : Nat} (hU : U.length = k) : lsO (U ++ (v', A') :: V) = (lsO (U ++ (v, A) :: V)).set k A' := by
  subst hU
  simp
theorem vs_same15 {U V : List (Value × List Pt)} {v : Value} {A A' : List Pt} : vsO (U ++ (v, A) :: V) = vsO (U ++ (v, A') :: V) := by simp
theorem vs_set15 {U V : List (Value × List Pt)} {v v' : Value} {A A' : List Pt} {k : Nat} (hU : U.length = k) : (vsO (U ++ (v, A) :: V)).set k v' = vsO (U ++ (v', A') :: V) := by
  subst hU
  simp
theorem cQ_set_ne {CC : List (List Pt)} {k j : Nat} {A : List Pt} (h : k ≠ j) : cQ (CC.set k A) j = cQ CC j := by
  unfold cQ
  rw [List.getD_eq_getElem?_getD, List.getD_eq_getElem?_getD, List.getElem?_set_ne h]
theorem StP.put {CC : List (List Pt)} {c P : List Pt} {A : List Pt} (h : StP CC c P) : StP (CC.set P.length A) c P :=
  ⟨fun i hi => by rw [cQ_set_ne (by omega)]; exact h.1 i hi, h.2⟩

set_option maxRecDepth 20000 in
set_option maxHeartbeats 16000000 in
theorem seI_own {n : Nat} {B : World → Prop} {w : World} {Rr : List Item} {f : Int} {va : Value} {c l T P : List Pt} {N k m : Nat} {es : List (Value × List Pt)} (ql cl qc cc : Nat) (hB : ∀ W, B W → CtAt W f va c N) (hl : l.length = N) (pl : ∀ x ∈ l, pvP x = true) (hes : EsOk es N) (hk : k < N) (hP : P.length = k) (hSt : StP (lsO es) c P) (hC : ∀ j, k ≤ j → j < N → cQ (lsO es) j = cfL T f c j)
    (hm : m < ((cfL T f c k).map (shK T f c k (cD P (k - 1)))).sum) (hm63 : (m : Int) ≤ 984930291881790849)
    (hO : Own n B w (.row 37 3 (.slice (some ⟨ql, 0, none⟩) N cl) N (pcC l) :: .row 23 1 (.slice (some ⟨qc, 0, none⟩) N cc) N (vsO es) :: (rwP es ++ Rr))) :
    Calls Tryd.prog 36 #[.agg #[.int .i64 f, va, .slice (some ⟨ql, 0, none⟩) N cl, .slice (some ⟨qc, 0, none⟩) N cc], .int .i64 k, .int .i64 m] w (OwnOut n B fun v L' => ∃ (q : Pt) (i : Nat) (l' : List Pt) (es' : List (Value × List Pt)), (pkN (shK T f c k (cD P (k - 1))) m (cfL T f c k) = some (q, i) ∧ (l'.length = N ∧ ∀ x ∈ l', pvP x = true) ∧ EsOk es' N ∧ lsO es' = (lsO es).set k [q]) ∧ v = .int .i64 (i : Int) ∧ L' = .row 37 3 (.slice (some ⟨ql, 0, none⟩) N cl) N (pcC l') :: .row 23 1 (.slice (some ⟨qc, 0, none⟩) N cc) N (vsO es') :: (rwP es' ++ Rr)) := by
  have hn10 := (hB _ hO.base).n10
  have hcl := (hB _ hO.base).hc
  obtain ⟨A, ca, hva, nb, hA⟩ := (hB _ hO.base).sc.open
  obtain ⟨b1, o1, hA1, hca1, hca2, g1⟩ := hA (by omega)
  subst hA1 hva
  obtain ⟨v0, Q, hv0, hQ, h630, hpv0⟩ := hes.get hk
  have hQc : Q = cfL T f c k := by rw [← hQ]; exact hC k (Nat.le_refl _) hk
  obtain ⟨U, V, hes2, hU⟩ := split15 hv0
  subst hes2
  obtain ⟨g, hg⟩ : ∃ g, shK T f c k (cD P (k - 1)) = g := ⟨_, rfl⟩
  have HSH := hid (fun (q : Pt) (v' : Value) (hq : q ∈ Q) => show fwZ (lsO (U ++ (v', [q]) :: V)) c = g q from by
    rw [ls_set15 (v := v0) (A := Q) hU, ← hg, ← hP]
    have hlen : (lsO (U ++ (v0, Q) :: V)).length = N := by rw [List.length_map]; exact hes.len
    refine fw_share hSt.put (by omega) ?_ (cQ_at (List.getElem?_set_self (by omega))) fun j hj hj2 => ?_
    · rw [hQc] at hq
      rw [hP]
      exact (List.mem_filter.1 hq).2
    · rw [cQ_set_ne (by omega)]
      exact hC j (by omega) (by omega))
  have HOK := hid (fun (q : Pt) (v' : Value) (hq : q ∈ Q) => show EsOk (U ++ (v', [q]) :: V) N from hes.put (by simp) fun x hx => by rw [List.mem_singleton.1 hx]; exact hpv0 q hq)
  have HLS := hid (fun (q : Pt) (v' : Value) => ls_set15 (U := U) (V := V) (v := v0) (v' := v') (A := Q) (A' := [q]) hU)
  have HVS := hid (fun (v v' : Value) (q : Pt) => vs_set15 (U := U) (V := V) (v := v) (v' := v') (A := []) (A' := [q]) hU)
  have HVA := hid (fun (v : Value) => pt_at15 (U := U) (V := V) (p := (v, ([] : List Pt))) hU)
  have HNM := hid (fun (q : Pt) (v' : Value) (hq : q ∈ Q) => show (fwZ (lsO (U ++ (v', [q]) :: V)) c : Int) ≤ 984930291881790849 from by
    have e1 := fsK_full (lsO (U ++ (v', [q]) :: V)) c (N - 1) (by omega)
    rw [← e1]
    exact fsK_num (HOK.out q v' hq).c63 (by omega) _)
  have HB := hid hB
  rw [← hQc, hg] at hm ⊢
  have HM := hid hm
  obtain ⟨mQ, hmQ⟩ : ∃ m, Q.length = m := ⟨_, rfl⟩
  have HQL := hid hmQ
  have HQV := hid hpv0
  replace hO := pt_head15 hO
  dsimp only at hO
  rw [hmQ] at hO h630
  obtain ⟨Av0, cv0, hvf0⟩ := (SlAt.of_row hO.1.1).form
  subst hvf0
  have HL := hid (And.intro hl pl)
  have HES2 := hid (show vsO (U ++ (.slice Av0 mQ cv0, Q) :: V) = vsO (U ++ (.slice Av0 mQ cv0, []) :: V) from vs_same15)
  rw [HES2.out] at hO
  have e0 := own_mem15 hO (List.mem_cons_of_mem _ (List.mem_cons_of_mem _ List.mem_cons_self)) (HVA.out _)
  have hqc := (hO.lt _ (List.mem_cons_of_mem _ (List.mem_cons_of_mem _ List.mem_cons_self)) qc rfl).2
  have k0 : (0 : Int) ≤ (k : Int) := by omega
  have k1 : (k : Int) < (N : Int) := by omega
  have k00 : k < N := hk
  have hmQ2 : (mQ : Int) ≤ 63 := by omega
  clear hA hv0 hQ hQc hU hg hmQ hB hl pl hpv0 hcl hes hm hSt hC hP hk
  have hF := True.intro
  go_enter Tryd.func36, Tryd.ntmps36
  go_wp2_with fail
  have hO2 := hO.alloc (t := 52) (vs := [.int .i64 f, .slice (some ⟨b1, o1, none⟩) N ca, .slice (some ⟨ql, 0, none⟩) N cl, .slice (some ⟨qc, 0, none⟩) N cc])
  clear hO e0 hqc hF
  obtain ⟨qb, hqb⟩ : ∃ q, w.heap.size = q := ⟨_, rfl⟩
  rw [hqb] at hO2 ⊢
  clear hqb
  go_loopw [2, 18] (fun u s wr => ∃ (i mi : Nat) (l' : List Pt) (v' : Value), i ≤ mQ ∧ s = .int .i64 i ∧ u = .int .i64 mi ∧ Hid ((l'.length = N ∧ ∀ x ∈ l', pvP x = true) ∧ pkN g mi (Q.drop i) = pkN g m Q ∧ mi < ((Q.drop i).map g).sum) ∧ (mi : Int) ≤ 984930291881790849 ∧ Own n B wr (.blk qb [.int .i64 f, .slice (some ⟨b1, o1, none⟩) N ca, .slice (some ⟨ql, 0, none⟩) N cl, .slice (some ⟨qc, 0, none⟩) N cc] :: .row 37 3 (.slice Av0 mQ cv0) mQ (pcC Q) :: .row 37 3 (.slice (some ⟨ql, 0, none⟩) N cl) N (pcC l') :: .row 23 1 (.slice (some ⟨qc, 0, none⟩) N cc) N (vsO (U ++ (v', []) :: V)) :: (rwP (U ++ V) ++ Rr))) (fun _ s _ => mQ - (intOf s).toNat)
  case atStart => exact ⟨0, m, l, _, by omega, rfl, rfl, ⟨HL.out, by rw [List.drop_zero], by rw [List.drop_zero]; exact HM.out⟩, hm63, hO2⟩
  case round =>
    clear hO2
    obtain ⟨i, mi, l', v', hi, rfl, rfl, hp, hmi, hO⟩ := hrel
    have hil : i < mQ := by
      by_cases he : i = mQ
      · exfalso
        have := hp.out.2.2
        rw [List.drop_of_length_le (by have := HQL.out; omega)] at this
        simp at this
      · omega
    have hil2 : (i : Int) < (mQ : Int) := by omega
    have hi0 : (0 : Int) ≤ (i : Int) := by omega
    have mi0 : (0 : Int) ≤ (mi : Int) := by omega
    obtain ⟨q9, cap9, hv9, hq9, hq8⟩ := own_form15 hO (List.mem_cons_of_mem _ List.mem_cons_self) (by omega)
    cases hv9
    have hq7 : cv0 ≤ 9223372036854775807 := by unfold maxLen at hq8; omega
    clear hq8
    obtain ⟨q, hq⟩ : ∃ x, Q[i]? = some x := ⟨_, List.getElem?_eq_getElem (by have := HQL.out; omega)⟩
    have HQM := hid (List.mem_of_getElem? hq)
    have HQ := hid hq
    have p0 := own_mem15 hO (List.mem_cons_of_mem _ List.mem_cons_self) (pcC_at hq).1
    have p1 := own_mem15 hO (List.mem_cons_of_mem _ List.mem_cons_self) (pcC_at hq).2.1
    have p2 := own_mem15 hO (List.mem_cons_of_mem _ List.mem_cons_self) (pcC_at hq).2.2
    have hqc := (hO.lt _ (List.mem_cons_of_mem _ (List.mem_cons_of_mem _ (List.mem_cons_of_mem _ List.mem_cons_self))) qc rfl).2
    have e0 := own_mem15 hO (List.mem_cons_of_mem _ (List.mem_cons_of_mem _ (List.mem_cons_of_mem _ List.mem_cons_self))) (HVA.out v')
    have f0 := own_free15 hO (List.mem_cons_of_mem _ (List.mem_cons_of_mem _ (List.mem_cons_of_mem _ List.mem_cons_self))) k
    have hF := True.intro
    have hF := hO; (try simp only [Own, Item.Holds, apartI, CellsAt, Nat.reduceAdd, Nat.zero_add, List.mem_cons, List.not_mem_nil, or_false, forall_eq_or_imp, forall_eq, ne_eq, false_imp_iff, implies_true, and_true] at hF)
    have hne := hO.1.2 _ (List.mem_cons_of_mem _ (List.mem_cons_of_mem _ List.mem_cons_self))
    have hne1 : ¬ qb = qc := fun e => hne (by rw [e]; rfl)
    have hne2 : ¬ qc = qb := fun e => hne1 e.symm
    clear hq hne
    go_wp2_with fail
    replace hO := hO.perm (List.perm_middle (l₁ := [_, _, _]))
    simp only [List.cons_append, List.nil_append] at hO
    have hO3 := ((hO.row_set k (.slice (some ⟨wr.heap.size + 1, 0, none⟩) 1 1)).alloc (t := 37) (vs := [.int .i64 q.s, .int .i64 q.a, .int .i64 q.o])).allocRow (e := 37) (cur := #[.int .i64 q.s, .int .i64 q.a, .int .i64 q.o]) (k := 1) (cap := 1) 3 (by omega) (by unfold maxLen; omega) rfl
    simp only [World.size_alloc1, World.size_setCell] at hO3
    rw [HVS.out v' _ q] at hO3
    clear hO hF p0 p1 p2 e0 f0 hqc hne1 hne2
    obtain ⟨qp, hqp⟩ : ∃ q, wr.heap.size = q := ⟨_, rfl⟩
    rw [hqp] at hO3 ⊢
    clear hqp
    replace hO3 : Own n B _ (.row 37 3 (.slice (some ⟨qp + 1, 0, none⟩) 1 1) [q].length (pcC [q]) :: _) := hO3
    replace hO3 := hO3.perm (L' := .row 37 3 (.slice (some ⟨ql, 0, none⟩) N cl) N (pcC l') :: .row 23 1 (.slice (some ⟨qc, 0, none⟩) N cc) N (vsO (U ++ (.slice (some ⟨qp + 1, 0, none⟩) 1 1, [q]) :: V)) :: (rwP (U ++ (.slice (some ⟨qp + 1, 0, none⟩) 1 1, [q]) :: V) ++ (.blk qp [.int .i64 q.s, .int .i64 q.a, .int .i64 q.o] :: .blk qb [.int .i64 f, .slice (some ⟨b1, o1, none⟩) N ca, .slice (some ⟨ql, 0, none⟩) N cl, .slice (some ⟨qc, 0, none⟩) N cc] :: .row 37 3 (.slice (some ⟨q9, 0, none⟩) mQ cv0) mQ (pcC Q) :: Rr))) (perm_cnt15 fun a => by simp only [rwP_append, rwP_cons15, List.count_append, List.count_cons]; omega)
    have HCO := hid (fun (W : World) (L : List Item) (hW : Own n B W (.row 37 3 (.slice (some ⟨ql, 0, none⟩) N cl) N (pcC l') :: .row 23 1 (.slice (some ⟨qc, 0, none⟩) N cc) N (vsO (U ++ (.slice (some ⟨qp + 1, 0, none⟩) 1 1, [q]) :: V)) :: (rwP (U ++ (.slice (some ⟨qp + 1, 0, none⟩) 1 1, [q]) :: V) ++ L))) => coI_own ql cl qc cc HB.out hp.out.1.1 hp.out.1.2 (HOK.out q _ HQM.out) hW)
    have HG := hid (HSH.out q (.slice (some ⟨qp + 1, 0, none⟩) 1 1) HQM.out)
    have hnm := HNM.out q (.slice (some ⟨qp + 1, 0, none⟩) 1 1) HQM.out
    obtain ⟨z, hz⟩ : ∃ z : Int, (fwZ (lsO (U ++ (.slice (some ⟨qp + 1, 0, none⟩) 1 1, [q]) :: V)) c : Int) = z := ⟨_, rfl⟩
    have HZ := hid hz
    rw [hz] at HCO hnm
    have hz0 : 0 ≤ z := by omega
    have hzg := hid (show z = (g q : Int) by rw [← hz, HG.out])
    have wz : IntKind.i64.wrap ((mi : Int) - z) = (mi : Int) - z := IntWalk.i64_in _ (by omega)
    have hF := True.intro
    have hO := hO3
    clear hO3 hz
    by_cases hlt : (mi : Int) < z
    · have HPK := hid (show pkN g m Q = some (q, mi) by
        rw [← hp.out.2.1, pk_step HQ.out, if_pos (by have := hzg.out; omega)])
      go_wp2_with (go_at_call 31; apply own_at hO; (repeat (first | (with_reducible exact hO) | (with_reducible apply Own.alloc) | (with_reducible apply Own.drew) | ((with_reducible apply Own.set_at); (focus (show _ ≤ _; omega))))); have hG := hF; clear hF; clear hO; intro hO; (try simp only [World.size_alloc1, World.size_drew, Nat.reduceAdd] at hO); (try simp only [upd, updI, List.map_cons, List.map_nil, eq_self, if_true, if_false, reduceIte, Nat.add_eq_left, Nat.left_eq_add, Nat.reduceEqDiff, List.set_cons_zero, List.set_cons_succ, hG] at hO); clear hG; skip; refine own_callE hO (fun hW => HCO.out _ _ hW) ?_; clear hO; rintro v L' w1 ⟨rfl, l2, hl2, rfl⟩ hO; (try simp only [World.size_alloc1, World.size_drew, Nat.reduceAdd] at hO); (try simp only [upd, updI, List.map_cons, List.map_nil, eq_self, if_true, if_false, reduceIte, Nat.add_eq_left, Nat.left_eq_add, Nat.reduceEqDiff, List.set_cons_zero, List.set_cons_succ] at hO); have hF := hO; (try simp only [Own, Item.Holds, apartI, CellsAt, Nat.reduceAdd, Nat.zero_add, List.mem_cons, List.not_mem_nil, or_false, forall_eq_or_imp, forall_eq, ne_eq, false_imp_iff, implies_true, and_true] at hF))
      go_ret
      exact ⟨_, _, rfl, ⟨q, mi, l2, U ++ (.slice (some ⟨qp + 1, 0, none⟩) 1 1, [q]) :: V, ⟨HPK.out, hl2, HOK.out q _ HQM.out, HLS.out q _⟩, rfl, rfl⟩, Own.sub (.cons_cons _ (.cons_cons _ (List.Sublist.append (.refl _) (.cons _ (.cons _ (.cons _ (.refl _))))))) hO⟩
    · have HPK := hid (show pkN g (mi - g q) (Q.drop (i + 1)) = pkN g m Q ∧ mi - g q < ((Q.drop (i + 1)).map g).sum ∧ ((mi - g q : Nat) : Int) = (mi : Int) - z by
        have h9 := hzg.out
        refine ⟨?_, pk_sum HQ.out hp.out.2.2 (by omega), by omega⟩
        rw [← hp.out.2.1, pk_step HQ.out, if_neg (by omega)])
      have hmi2 : (mi : Int) - z ≤ 984930291881790849 := by omega
      go_wp2_with (go_at_call 31; apply own_at hO; (repeat (first | (with_reducible exact hO) | (with_reducible apply Own.alloc) | (with_reducible apply Own.drew) | ((with_reducible apply Own.set_at); (focus (show _ ≤ _; omega))))); have hG := hF; clear hF; clear hO; intro hO; (try simp only [World.size_alloc1, World.size_drew, Nat.reduceAdd] at hO); (try simp only [upd, updI, List.map_cons, List.map_nil, eq_self, if_true, if_false, reduceIte, Nat.add_eq_left, Nat.left_eq_add, Nat.reduceEqDiff, List.set_cons_zero, List.set_cons_succ, hG] at hO); clear hG; skip; refine own_callE hO (fun hW => HCO.out _ _ hW) ?_; clear hO; rintro v L' w1 ⟨rfl, l2, hl2, rfl⟩ hO; (try simp only [World.size_alloc1, World.size_drew, Nat.reduceAdd] at hO); (try simp only [upd, updI, List.map_cons, List.map_nil, eq_self, if_true, if_false, reduceIte, Nat.add_eq_left, Nat.left_eq_add, Nat.reduceEqDiff, List.set_cons_zero, List.set_cons_succ] at hO); have hF := hO; (try simp only [Own, Item.Holds, apartI, CellsAt, Nat.reduceAdd, Nat.zero_add, List.mem_cons, List.not_mem_nil, or_false, forall_eq_or_imp, forall_eq, ne_eq, false_imp_iff, implies_true, and_true] at hF))
      go_roundw
      case rel => exact ⟨i + 1, mi - g q, l2, .slice (some ⟨qp + 1, 0, none⟩) 1 1, by omega, by go_num, by rw [HPK.out.2.2], ⟨hl2, HPK.out.1, HPK.out.2.1⟩, by rw [HPK.out.2.2]; exact hmi2, by
        have h5 := hO.perm (L' := .row 37 3 (.slice (some ⟨qp + 1, 0, none⟩) 1 1) [q].length (pcC [q]) :: .blk qp [.int .i64 q.s, .int .i64 q.a, .int .i64 q.o] :: .blk qb [.int .i64 f, .slice (some ⟨b1, o1, none⟩) N ca, .slice (some ⟨ql, 0, none⟩) N cl, .slice (some ⟨qc, 0, none⟩) N cc] :: .row 37 3 (.slice (some ⟨q9, 0, none⟩) mQ cv0) mQ (pcC Q) :: .row 37 3 (.slice (some ⟨ql, 0, none⟩) N cl) N (pcC l2) :: .row 23 1 (.slice (some ⟨qc, 0, none⟩) N cc) N (vsO (U ++ (.slice (some ⟨qp + 1, 0, none⟩) 1 1, [q]) :: V)) :: (rwP (U ++ V) ++ Rr)) (perm_cnt15 fun a => by simp only [rwP_append, rwP_cons15, List.count_append, List.count_cons]; omega)
        rw [vs_same15 (A' := [])] at h5
        exact Own.drop (Own.drop h5)⟩
      case measure => simp [intOf] <;> omega
end Go.Proofs.YtieoobanpllmgaaDoor
