/- Chapter 15 in the program: CountLines, LineNumber, CompleteLine. -/
import Derived.Test.YtieoobanpllmgaaDoorCon15
import Derived.Test.YtieoobanpllmgaaDoorWalks15J
import Derived.Test.YtieoobanpllmgaaDoorWalks15K
import Derived.Test.YtieoobanpllmgaaDoorRegionD
namespace Go.Proofs.YtieoobanpllmgaaDoor
set_option linter.unusedSimpArgs false
set_option linter.unusedVariables false
set_option maxRecDepth 8000
open Go.RowKit Go.Joins

theorem ok_cfA {es : List (Value × List Pt)} {T : List Pt} {f : Int} {c : List Pt} {N : Nat} (h : lsO es = cfA T f c) (hc : c.length = N) (hT : T.length ≤ 63) (hp : ∀ x ∈ T, pvP x = true) : EsOk es N ∧ ∀ j, j < N → cQ (lsO es) j = cfL T f c j := by
  have hl : es.length = N := by
    have := congrArg List.length h
    rwa [List.length_map, cfA_len, hc] at this
  have hm : ∀ p ∈ es, ∃ k, p.2 = cfL T f c k := fun p hp => by
    have h1 : p.2 ∈ cfA T f c := by rw [← h]; exact List.mem_map_of_mem hp
    obtain ⟨k, _, hk⟩ := List.mem_map.1 h1
    exact ⟨k, hk.symm⟩
  refine ⟨⟨hl, fun p hp => ?_, fun p hp2 x hx => ?_⟩, fun j hj => ?_⟩
  · obtain ⟨k, hk⟩ := hm p hp
    rw [hk]
    exact Nat.le_trans (cfL_len T f c k) hT
  · obtain ⟨k, hk⟩ := hm p hp2
    rw [hk] at hx
    exact hp x (cfL_mem hx).1
  · rw [h]
    exact cQ_at (cfA_at (by omega))
theorem pk_le15 {g : Pt → Nat} : ∀ {T : List Pt} {m : Nat} {q : Pt} {j : Nat}, pkN g m T = some (q, j) → j ≤ m
  | [], m, q, j, h => by cases h
  | x :: T, m, q, j, h => by
    unfold pkN at h
    split at h
    · cases h; exact Nat.le_refl _
    · have := pk_le15 h
      omega
theorem pk_lt15 {g : Pt → Nat} : ∀ {T : List Pt} {m : Nat} {q : Pt} {j : Nat}, pkN g m T = some (q, j) → j < g q
  | [], m, q, j, h => by cases h
  | x :: T, m, q, j, h => by
    unfold pkN at h
    split at h
    · cases h; assumption
    · exact pk_lt15 h
/-- How far the tones are settled. -/
structure LnAt (T : List Pt) (f : Int) (c : List Pt) (N m0 k mi : Nat) (l : List Pt) (es : List (Value × List Pt)) (P : List Pt) : Prop where
  pk : P.length = k
  ln : l.length = N
  lv : ∀ x ∈ l, pvP x = true
  ok : EsOk es N
  st : StP (lsO es) c P
  on : ∀ j, k ≤ j → j < N → cQ (lsO es) j = cfL T f c j
  rs : P ++ rsK T f c k (cD P (k - 1)) mi = lnL T f c m0
  lt : k < N → mi < ((cfL T f c k).map (shK T f c k (cD P (k - 1)))).sum
theorem LnAt.start {T : List Pt} {f : Int} {c : List Pt} {N m0 : Nat} {l : List Pt} {es : List (Value × List Pt)} (hc : c.length = N) (h0 : 0 < N) (hl : l.length = N) (pl : ∀ x ∈ l, pvP x = true) (hes : EsOk es N) (hC : ∀ j, j < N → cQ (lsO es) j = cfL T f c j) (hm : m0 < cnZ T f c) : LnAt T f c N m0 0 m0 l es [] := by
  refine ⟨rfl, hl, pl, hes, ⟨fun i hi => absurd hi (Nat.not_lt_zero _), fun i hi => absurd hi (Nat.not_lt_zero _)⟩, fun j _ hj => hC j hj, ?_, fun _ => ?_⟩
  · unfold rsK
    rw [if_pos rfl]
    rfl
  · rw [sh_ch (by omega)]
    rw [cnK_zero] at hm
    exact hm
theorem LnAt.step {T : List Pt} {f : Int} {c : List Pt} {N m0 k mi i : Nat} {l l2 : List Pt} {es es2 : List (Value × List Pt)} {P : List Pt} {q : Pt} (h : LnAt T f c N m0 k mi l es P) (hc : c.length = N) (hk : k < N) (hpk : pkN (shK T f c k (cD P (k - 1))) mi (cfL T f c k) = some (q, i)) (hl : l2.length = N) (pl : ∀ x ∈ l2, pvP x = true) (hes : EsOk es2 N) (he : lsO es2 = (lsO es).set k [q]) : LnAt T f c N m0 (k + 1) i l2 es2 (P ++ [q]) := by
  have hpk2 := hpk
  rw [pk_ch (by omega)] at hpk2
  have hlt := pk_lt15 hpk
  have hq : cD (P ++ [q]) (k + 1 - 1) = q := by
    unfold cD
    rw [Nat.add_sub_cancel, List.getD_eq_getElem?_getD, List.getElem?_append_right (by rw [h.pk]; exact Nat.le_refl _), h.pk, Nat.sub_self]
    rfl
  refine ⟨by rw [List.length_append, h.pk]; rfl, hl, pl, hes, ?_, fun j hj hj2 => ?_, ?_, fun hk2 => ?_⟩
  · rw [he, ← h.pk]
    refine h.st.snoc (by rw [List.length_map, h.ok.len, h.pk]; exact hk) ?_
    rw [h.pk]
    exact shK_two hlt
  · rw [he, cQ_set_ne (by omega)]
    exact h.on j (by omega) hj2
  · rw [hq, ← h.rs, rs_step (by omega) hpk2, List.append_assoc]
    rfl
  · rw [hq, sh_ch (by omega)]
    exact sh_next (by omega) hlt
theorem LnAt.fin {T : List Pt} {f : Int} {c : List Pt} {N m0 mi : Nat} {l : List Pt} {es : List (Value × List Pt)} {P : List Pt} (h : LnAt T f c N m0 N mi l es P) (hc : c.length = N) (h0 : 0 < N) : P = lnL T f c m0 ∧ lsO es = P.map fun p => [p] := by
  refine ⟨?_, ?_⟩
  · have := h.rs
    subst hc
    rwa [rs_end (by intro e; rw [e] at h0; exact absurd h0 (by decide)), List.append_nil] at this
  · refine List.ext_getElem? fun i => ?_
    by_cases hi : i < N
    · obtain ⟨v, A, h1, h2, _⟩ := h.ok.get hi
      have h3 := h.st.1 i (by rw [h.pk]; exact hi)
      obtain ⟨p, hp⟩ : ∃ p, P[i]? = some p := ⟨_, List.getElem?_eq_getElem (by rw [h.pk]; exact hi)⟩
      rw [List.getElem?_map, h1, List.getElem?_map, hp]
      rw [h2, cD_at hp] at h3
      rw [h3]
      rfl
    · rw [List.getElem?_eq_none (by rw [List.length_map, h.ok.len]; omega), List.getElem?_eq_none (by rw [List.length_map, h.pk]; omega)]

theorem own_call_cmp {P : Program} {fn : FuncId} {args : Array Value} {n : Nat} {B : World → Prop} {W : World} {L : List Item} {f : Int} {va : Value} {c T : List Pt} {N : Nat} {K : Ending → World → Prop}
    (hO : Own n B W L) (h : B W → Calls P fn args W (CmpOut f va c T N W)) (k' : ∀ (ql cl qc cc : Nat) (l : List Pt) (es : List (Value × List Pt)) w1, Hid (l.length = N ∧ (∀ x ∈ l, pvP x = true) ∧ lsO es = cfA T f c) → Own n B w1 (.row 37 3 (.slice (some ⟨ql, 0, none⟩) N cl) N (pcC l) :: .row 23 1 (.slice (some ⟨qc, 0, none⟩) N cc) N (vsO es) :: (rwP es ++ L)) → K (.returned (.tuple #[.agg #[.int .i64 f, va, .slice (some ⟨ql, 0, none⟩) N cl, .slice (some ⟨qc, 0, none⟩) N cc], .bool true])) w1) : Calls P fn args W K :=
  (h hO.base).mono fun e w1 ⟨ql, cl, qc, cc, l, es, he, hp, ho⟩ => by
    subst he
    have := hO.joinP ho
    rw [List.append_nil] at this
    exact k' ql cl qc cc l es w1 hp this

theorem own_rot15 {n : Nat} {B : World → Prop} {w : World} {x a b : Item} {R L : List Item} (h : Own n B w (x :: a :: b :: (R ++ L))) : Own n B w (a :: b :: (R ++ (x :: L))) :=
  h.perm (perm_cnt15 fun i => by simp only [List.count_append, List.count_cons]; omega)
theorem own_back15 {n : Nat} {B : World → Prop} {w : World} {x a b : Item} {R L : List Item} (h : Own n B w (a :: b :: (R ++ (x :: L)))) : Own n B w (x :: a :: b :: (R ++ L)) :=
  h.perm (perm_cnt15 fun i => by simp only [List.count_append, List.count_cons]; omega)

set_option maxRecDepth 20000 in
set_option maxHeartbeats 4000000 in
theorem countI_any (f lo hi : Int) (va : Value) (c : List Pt) (w : World) (hs : SlAt w va c.length 3 (pcC c)) (hn : c.length ≤ 1048576) (hT : TabH w) (hA : TabA w) :
    Calls Tryd.prog 11 #[.int .i64 f, va, .int .i64 lo, .int .i64 hi] w fun e w' => e = .returned (.int .i64 (clZ f c lo hi)) ∧ Below w.heap.size w w' := by
  have hO := Own.start w
  have hF := True.intro
  by_cases hb : soB f c lo hi = true
  · obtain ⟨hcv, hlo, _⟩ := soB_iff.1 hb
    obtain ⟨c1, c2, c3, _⟩ := cvB_iff.1 hcv
    obtain ⟨N, hN⟩ : ∃ n, c.length = n := ⟨_, rfl⟩
    obtain ⟨T, hTE⟩ : ∃ T, tsL f lo hi = T := ⟨_, rfl⟩
    rw [hN] at hs c2 c3
    have HZ := hid (show clZ f c lo hi = (cnZ T f c : Int) by unfold clZ; rw [if_pos hb, hTE])
    have HTT := hid (show T.length ≤ 63 ∧ ∀ x ∈ T, pvP x = true from ⟨by rw [← hTE]; exact tnL_len _ _ _, fun x hx => by rw [← hTE] at hx; exact (tn_pv hlo.1 hx).1⟩)
    have HB := hid (show ∀ W, Below w.heap.size w W → CtAt W f va c N from fun W hW => ⟨hN, hs.below hW, fun x hx => (ikP_iff.1 (c1 x hx)).2.1, c2, c3, hT.below hW, hA.below hW⟩)
    have HC := hid (fun (W : World) (hW : Below w.heap.size w W) => cmI_yes f lo hi va c T N W (hs.below hW) hN (hT.below hW) (hA.below hW) hb hTE)
    have HN := hid hN
    obtain ⟨A, ca, rfl, nb, _⟩ := hs.open
    clear hs hn hT hA hb hcv hlo c1 c2 c3 hN hTE
    go_enter Tryd.func11, Tryd.ntmps11
    go_wp2_with (go_at_call 30; refine own_call_cmp hO (fun hB => HC.out _ hB) ?_; clear hO; intro ql cl qc cc l es w1 hcm hO; have hF := hO; (try simp only [Own, Item.Holds, apartI, CellsAt, Nat.reduceAdd, Nat.zero_add, List.mem_cons, List.not_mem_nil, or_false, forall_eq_or_imp, forall_eq, ne_eq, false_imp_iff, implies_true, and_true] at hF))
    have HES := hid (ok_cfA hcm.out.2.2 HN.out HTT.out.1 HTT.out.2)
    have HFZ := hid (show fwZ (lsO es) c = cnZ T f c from fw_all (by have := (HB.out _ (Below.refl _ _)).n2; have := HN.out; omega) (by rw [HN.out]; exact HES.out.2))
    have HCO := hid (fun (W : World) (L : List Item) (hW : Own w.heap.size (Below w.heap.size w) W (.row 37 3 (.slice (some ⟨ql, 0, none⟩) N cl) N (pcC l) :: .row 23 1 (.slice (some ⟨qc, 0, none⟩) N cc) N (vsO es) :: (rwP es ++ L))) => coI_own ql cl qc cc HB.out hcm.out.1 hcm.out.2.1 HES.out.1 hW)
    have HV := hid (show clZ f c lo hi = (fwZ (lsO es) c : Int) by rw [HZ.out, HFZ.out])
    go_wp2_with (go_at_call 31; apply own_at hO; (repeat (first | (with_reducible exact hO) | (with_reducible apply Own.alloc) | (with_reducible apply Own.drew) | ((with_reducible apply Own.set_at); (focus (show _ ≤ _; omega))))); have hG := hF; clear hF; clear hO; intro hO; (try simp only [World.size_alloc1, World.size_drew, Nat.reduceAdd] at hO); (try simp only [upd, updI, List.map_cons, List.map_nil, eq_self, if_true, if_false, reduceIte, Nat.add_eq_left, Nat.left_eq_add, Nat.reduceEqDiff, List.set_cons_zero, List.set_cons_succ, hG] at hO); clear hG; replace hO := own_rot15 hO; refine own_callE hO (fun hW => HCO.out _ _ hW) ?_; clear hO; rintro v L' w1 ⟨rfl, l2, hl2, rfl⟩ hO; (try simp only [World.size_alloc1, World.size_drew, Nat.reduceAdd] at hO); (try simp only [upd, updI, List.map_cons, List.map_nil, eq_self, if_true, if_false, reduceIte, Nat.add_eq_left, Nat.left_eq_add, Nat.reduceEqDiff, List.set_cons_zero, List.set_cons_succ] at hO); have hF := hO; (try simp only [Own, Item.Holds, apartI, CellsAt, Nat.reduceAdd, Nat.zero_add, List.mem_cons, List.not_mem_nil, or_false, forall_eq_or_imp, forall_eq, ne_eq, false_imp_iff, implies_true, and_true] at hF))
    go_ret
    exact ⟨ret_int HV.out.symm, hO.base⟩
  · have hb' : soB f c lo hi = false := by simpa using hb
    have HZ := hid (show clZ f c lo hi = -1 by unfold clZ; rw [if_neg hb])
    have HC := hid (fun (W : World) (hW : Below w.heap.size w W) => cmI_no f lo hi va c W (hs.below hW) hn (hA.below hW) hb')
    obtain ⟨A, ca, rfl, nb, _⟩ := hs.open
    clear hs hn hT hA hb hb'
    go_enter Tryd.func11, Tryd.ntmps11
    go_wp2_with (go_at_call 30; apply own_at hO; (repeat (first | (with_reducible exact hO) | (with_reducible apply Own.alloc) | (with_reducible apply Own.drew) | ((with_reducible apply Own.set_at); (focus (show _ ≤ _; omega))))); have hG := hF; clear hF; clear hO; intro hO; refine own_call hO (fun hB => HC.out _ hB) ?_; clear hO; intro w1 hO; (try simp only [World.size_alloc1, World.size_drew, Nat.reduceAdd] at hO); (try simp only [upd, updI, List.map_cons, List.map_nil, eq_self, if_true, if_false, reduceIte, Nat.add_eq_left, Nat.left_eq_add, Nat.reduceEqDiff, List.set_cons_zero, List.set_cons_succ, hG] at hO); clear hG; have hF := hO; (try simp only [Own, Item.Holds, apartI, CellsAt, Nat.reduceAdd, Nat.zero_add, List.mem_cons, List.not_mem_nil, or_false, forall_eq_or_imp, forall_eq, ne_eq, false_imp_iff, implies_true, and_true] at hF))
    go_ret
    exact ⟨ret_int HZ.out.symm, Own.base (by first | exact hO | (repeat (first | (with_reducible exact hO) | (with_reducible apply Own.alloc) | (with_reducible apply Own.drew) | ((with_reducible apply Own.set_at); (focus (show _ ≤ _; omega))))))⟩
theorem countI_C (w : World) (ht : TabH w) (hA : TabA w) : CCt 11 w := fun f lo hi va c W hW _ _ _ hs hn => countI_any f lo hi va c W hs hn (ht.below hW) (hA.below hW)

theorem lb_no15 {f : Int} {c : List Pt} {lo hi m : Int} (h : lbB f c lo hi m = false) : lnZ f c lo hi m = [] := by
  unfold lnZ
  rw [if_neg (by rw [h]; decide)]

set_option maxRecDepth 20000 in
set_option maxHeartbeats 8000000 in
theorem numberI_any (f lo hi m : Int) (va : Value) (c : List Pt) (w : World) (hs : SlAt w va c.length 3 (pcC c)) (hn : c.length ≤ 1048576) (hT : TabH w) (hA : TabA w) :
    Calls Tryd.prog 16 #[.int .i64 f, va, .int .i64 lo, .int .i64 hi, .int .i64 m] w (RowOutB 37 3 (lnZ f c lo hi m).length (pcC (lnZ f c lo hi m)) (lbB f c lo hi m) w) := by
  have hO := Own.start w
  have hF := True.intro
  by_cases hb : soB f c lo hi = true
  · obtain ⟨hcv, hlo, _⟩ := soB_iff.1 hb
    obtain ⟨c1, c2, c3, _⟩ := cvB_iff.1 hcv
    obtain ⟨N, hN⟩ : ∃ n, c.length = n := ⟨_, rfl⟩
    obtain ⟨T, hTE⟩ : ∃ T, tsL f lo hi = T := ⟨_, rfl⟩
    rw [hN] at hs c2 c3
    have HZ := hid (show clZ f c lo hi = (cnZ T f c : Int) by unfold clZ; rw [if_pos hb, hTE])
    have HTT := hid (show T.length ≤ 63 ∧ ∀ x ∈ T, pvP x = true from ⟨by rw [← hTE]; exact tnL_len _ _ _, fun x hx => by rw [← hTE] at hx; exact (tn_pv hlo.1 hx).1⟩)
    have HB := hid (show ∀ W, Below w.heap.size w W → CtAt W f va c N from fun W hW => ⟨hN, hs.below hW, fun x hx => (ikP_iff.1 (c1 x hx)).2.1, c2, c3, hT.below hW, hA.below hW⟩)
    have HC := hid (fun (W : World) (hW : Below w.heap.size w W) => cmI_yes f lo hi va c T N W (hs.below hW) hN (hT.below hW) (hA.below hW) hb hTE)
    have HN := hid hN
    have HTE := hid hTE
    have hn2 : 2 ≤ N := c2
    have hn10 : N ≤ 10 := c3
    obtain ⟨A, ca, rfl, nb, _⟩ := hs.open
    clear hs hn hT hA hb hcv hlo c1 c2 c3 hN hTE
    by_cases hm0 : m < 0
    · have HV := hid (show lbB f c lo hi m = false by unfold lbB; rw [decide_eq_false (by omega)]; rfl)
      have HW := hid (lb_no15 HV.out)
      go_enter Tryd.func16, Tryd.ntmps16
      go_wp2_with (go_at_call 30; refine own_call_cmp hO (fun hB => HC.out _ hB) ?_; clear hO; intro ql cl qc cc l es w1 hcm hO; have hF := hO; (try simp only [Own, Item.Holds, apartI, CellsAt, Nat.reduceAdd, Nat.zero_add, List.mem_cons, List.not_mem_nil, or_false, forall_eq_or_imp, forall_eq, ne_eq, false_imp_iff, implies_true, and_true] at hF))
      go_ret2
      rw [HV.out, HW.out]
      exact RowOutB.mk (Own.nilRow 37 3 hO.alloc)
    · obtain ⟨M, hM⟩ : ∃ M : Nat, m = (M : Int) := ⟨m.toNat, by omega⟩
      subst hM
      have hm9 : ¬ (M : Int) < 0 := by omega
      have hm8 : decide ((M : Int) < 0) = false := decide_eq_false hm9
      go_enter Tryd.func16, Tryd.ntmps16
      go_wp2_with (go_at_call 30; refine own_call_cmp hO (fun hB => HC.out _ hB) ?_; clear hO; intro ql cl qc cc l es w1 hcm hO; have hF := hO; (try simp only [Own, Item.Holds, apartI, CellsAt, Nat.reduceAdd, Nat.zero_add, List.mem_cons, List.not_mem_nil, or_false, forall_eq_or_imp, forall_eq, ne_eq, false_imp_iff, implies_true, and_true] at hF))
      have HES := hid (ok_cfA hcm.out.2.2 HN.out HTT.out.1 HTT.out.2)
      have HFZ := hid (show fwZ (lsO es) c = cnZ T f c from fw_all (by have := HN.out; omega) (by rw [HN.out]; exact HES.out.2))
      have HCO := hid (fun (W : World) (L : List Item) (hW : Own w.heap.size (Below w.heap.size w) W (.row 37 3 (.slice (some ⟨ql, 0, none⟩) N cl) N (pcC l) :: .row 23 1 (.slice (some ⟨qc, 0, none⟩) N cc) N (vsO es) :: (rwP es ++ L))) => coI_own ql cl qc cc HB.out hcm.out.1 hcm.out.2.1 HES.out.1 hW)
      obtain ⟨z, hz⟩ : ∃ z : Nat, fwZ (lsO es) c = z := ⟨_, rfl⟩
      have HLB := hid (show lbB f c lo hi (M : Int) = decide (M < z) by
        unfold lbB
        rw [HZ.out, ← HFZ.out, hz, decide_eq_true (show 0 ≤ (M : Int) by omega), Bool.true_and]
        by_cases h : M < z
        · rw [decide_eq_true h, decide_eq_true (by omega)]
        · rw [decide_eq_false h, decide_eq_false (by omega)])
      have HZC := hid (show cnZ T f c = z by rw [← HFZ.out, hz])
      have hz9 : (z : Int) ≤ 984930291881790849 := by
        have e1 := fsK_full (lsO es) c (N - 1) (by have := HN.out; omega)
        have e2 := fsK_num (c := c) HES.out.1.c63 (k := N - 1) (by omega) (cQ (lsO es) (N - 1)).length
        rw [e1, hz] at e2
        exact e2
      rw [hz] at HCO
      clear hz
      by_cases hlt : M < z
      · have hlt2 : ¬ (z : Int) ≤ (M : Int) := by omega
        have hlt3 : decide ((z : Int) ≤ (M : Int)) = false := decide_eq_false hlt2
        have hlt4 : decide (z ≤ M) = false := decide_eq_false (by omega)
        have HV := hid (show lbB f c lo hi (M : Int) = true ∧ lnZ f c lo hi (M : Int) = lnL T f c M from by
          have e1 : lbB f c lo hi (M : Int) = true := by rw [HLB.out]; exact decide_eq_true hlt
          refine ⟨e1, ?_⟩
          unfold lnZ
          rw [if_pos e1, HTE.out]
          rfl)
        have hO2 := hO.alloc (t := 52) (vs := [.int .i64 f, .slice A N ca, .slice (some ⟨ql, 0, none⟩) N cl, .slice (some ⟨qc, 0, none⟩) N cc])
        obtain ⟨qb, hqb⟩ : ∃ q, w1.heap.size = q := ⟨_, rfl⟩
        rw [hqb] at hO2 ⊢
        clear hO hF hqb
        have hO := own_back15 (own_rot15 hO2)
        clear hO2
        have hF := True.intro
        have hF := hO; (try simp only [Own, Item.Holds, apartI, CellsAt, Nat.reduceAdd, Nat.zero_add, List.mem_cons, List.not_mem_nil, or_false, forall_eq_or_imp, forall_eq, ne_eq, false_imp_iff, implies_true, and_true] at hF)
        go_wp2_with ((go_at_call 31; apply own_at hO; (repeat (first | (with_reducible exact hO) | (with_reducible apply Own.alloc) | (with_reducible apply Own.drew) | ((with_reducible apply Own.set_at); (focus (show _ ≤ _; omega))))); have hG := hF; clear hF; clear hO; intro hO; (try simp only [World.size_alloc1, World.size_drew, Nat.reduceAdd] at hO); (try simp only [upd, updI, List.map_cons, List.map_nil, eq_self, if_true, if_false, reduceIte, Nat.add_eq_left, Nat.left_eq_add, Nat.reduceEqDiff, List.set_cons_zero, List.set_cons_succ, hG] at hO); clear hG; replace hO := own_rot15 hO; refine own_callE hO (fun hW => HCO.out _ _ hW) ?_; clear hO; rintro v L' w1 ⟨rfl, l2, hl2, rfl⟩ hO; (try simp only [World.size_alloc1, World.size_drew, Nat.reduceAdd] at hO); (try simp only [upd, updI, List.map_cons, List.map_nil, eq_self, if_true, if_false, reduceIte, Nat.add_eq_left, Nat.left_eq_add, Nat.reduceEqDiff, List.set_cons_zero, List.set_cons_succ] at hO); have hF := hO; (try simp only [Own, Item.Holds, apartI, CellsAt, Nat.reduceAdd, Nat.zero_add, List.mem_cons, List.not_mem_nil, or_false, forall_eq_or_imp, forall_eq, ne_eq, false_imp_iff, implies_true, and_true] at hF)); replace hO := own_back15 hO; clear hF; have hF := hO; (try simp only [Own, Item.Holds, apartI, CellsAt, Nat.reduceAdd, Nat.zero_add, List.mem_cons, List.not_mem_nil, or_false, forall_eq_or_imp, forall_eq, ne_eq, false_imp_iff, implies_true, and_true] at hF))
        clear hF
        have HLN := hid (LnAt.start HN.out (by omega) hl2.1 hl2.2 HES.out.1 HES.out.2 (show M < cnZ T f c by rw [HZC.out]; exact hlt))
        have hM9 : (M : Int) ≤ 984930291881790849 := by omega
        have hN0 : 0 < N := by omega
        clear hlt hlt2 hl2 hz9
        go_loopw [4, 38] (fun u s wr => ∃ (k mi : Nat) (l' : List Pt) (es' : List (Value × List Pt)) (P : List Pt), k ≤ N ∧ s = .int .i64 k ∧ u = .int .i64 mi ∧ Hid (LnAt T f c N M k mi l' es' P) ∧ (mi : Int) ≤ 984930291881790849 ∧ Own w.heap.size (Below w.heap.size w) wr (.blk qb [.int .i64 f, .slice A N ca, .slice (some ⟨ql, 0, none⟩) N cl, .slice (some ⟨qc, 0, none⟩) N cc] :: .row 37 3 (.slice (some ⟨ql, 0, none⟩) N cl) N (pcC l') :: .row 23 1 (.slice (some ⟨qc, 0, none⟩) N cc) N (vsO es') :: (rwP es' ++ []))) (fun _ s _ => N - (intOf s).toNat)
        case atStart => exact ⟨0, M, l2, es, [], by omega, rfl, rfl, HLN.out, hM9, hO⟩
        case round =>
          clear hO HLN hM9
          obtain ⟨k, mi, l', es', P, hk, rfl, rfl, hln, hmi, hO⟩ := hrel
          have hF := True.intro
          have hF := hO; (try simp only [Own, Item.Holds, apartI, CellsAt, Nat.reduceAdd, Nat.zero_add, List.mem_cons, List.not_mem_nil, or_false, forall_eq_or_imp, forall_eq, ne_eq, false_imp_iff, implies_true, and_true] at hF)
          by_cases he : k = N
          · subst he
            have HFI := hid (hln.out.fin HN.out hN0)
            have HPL := hid hln.out.pk
            have HEL := hid hln.out.ok.len
            go_wp2_with ((go_at_call 37; apply own_at hO; (repeat (first | (with_reducible exact hO) | (with_reducible apply Own.alloc) | (with_reducible apply Own.drew) | ((with_reducible apply Own.set_at); (focus (show _ ≤ _; omega))))); have hG := hF; clear hF; clear hO; intro hO; refine own_call_row hO (fun hB => concI_is _ P _ (by
              have h8 := StkR.of_own (es := es') (by rw [HEL.out]; exact Own.drop (Own.drop hO))
              rw [HFI.out.2] at h8
              exact h8) (by rw [HPL.out]; exact hN0) (by rw [HPL.out]; omega)) ?_; clear hO; intro v w1 hO; (try simp only [World.size_alloc1, World.size_drew, Nat.reduceAdd] at hO); (try simp only [upd, updI, List.map_cons, List.map_nil, eq_self, if_true, if_false, reduceIte, Nat.add_eq_left, Nat.left_eq_add, Nat.reduceEqDiff, List.set_cons_zero, List.set_cons_succ, hG] at hO); clear hG; have hF := hO; (try simp only [Own, Item.Holds, apartI, CellsAt, Nat.reduceAdd, Nat.zero_add, List.mem_cons, List.not_mem_nil, or_false, forall_eq_or_imp, forall_eq, ne_eq, false_imp_iff, implies_true, and_true] at hF)))
            go_ret2
            rw [HV.out.1, HV.out.2, ← HFI.out.1]
            exact RowOutB.mk hO
          · have hkl : k < N := by omega
            have hkl2 : (k : Int) < (N : Int) := by omega
            have hk0 : (0 : Int) ≤ (k : Int) := by omega
            have HSE := hid (fun (W : World) (L : List Item) (hW : Own w.heap.size (Below w.heap.size w) W (.row 37 3 (.slice (some ⟨ql, 0, none⟩) N cl) N (pcC l') :: .row 23 1 (.slice (some ⟨qc, 0, none⟩) N cc) N (vsO es') :: (rwP es' ++ L))) => seI_own (P := P) ql cl qc cc HB.out hln.out.ln hln.out.lv hln.out.ok hkl hln.out.pk hln.out.st hln.out.on (hln.out.lt hkl) hmi hW)
            clear he
            go_wp2_with (go_at_call 36; apply own_at hO; (repeat (first | (with_reducible exact hO) | (with_reducible apply Own.alloc) | (with_reducible apply Own.drew) | ((with_reducible apply Own.set_at); (focus (show _ ≤ _; omega))))); have hG := hF; clear hF; clear hO; intro hO; (try simp only [World.size_alloc1, World.size_drew, Nat.reduceAdd] at hO); (try simp only [upd, updI, List.map_cons, List.map_nil, eq_self, if_true, if_false, reduceIte, Nat.add_eq_left, Nat.left_eq_add, Nat.reduceEqDiff, List.set_cons_zero, List.set_cons_succ, hG] at hO); clear hG; replace hO := own_rot15 hO; refine own_callE hO (fun hW => HSE.out _ _ hW) ?_; clear hO; rintro v L' w1 ⟨q, i, l3, es3, hst, rfl, rfl⟩ hO; (try simp only [World.size_alloc1, World.size_drew, Nat.reduceAdd] at hO); (try simp only [upd, updI, List.map_cons, List.map_nil, eq_self, if_true, if_false, reduceIte, Nat.add_eq_left, Nat.left_eq_add, Nat.reduceEqDiff, List.set_cons_zero, List.set_cons_succ] at hO); have hF := hO; (try simp only [Own, Item.Holds, apartI, CellsAt, Nat.reduceAdd, Nat.zero_add, List.mem_cons, List.not_mem_nil, or_false, forall_eq_or_imp, forall_eq, ne_eq, false_imp_iff, implies_true, and_true] at hF))
            have HST := hid (hln.out.step HN.out hkl hst.1 hst.2.1.1 hst.2.1.2 hst.2.2.1 hst.2.2.2)
            have hi9 : (i : Int) ≤ 984930291881790849 := by have := pk_le15 hst.1; omega
            go_roundw
            case rel => exact ⟨k + 1, i, l3, es3, P ++ [q], by omega, by go_num, rfl, HST.out, hi9, own_back15 hO⟩
            case measure => simp [intOf] <;> omega
      · have hlt2 : (z : Int) ≤ (M : Int) := by omega
        have HV := hid (show lbB f c lo hi (M : Int) = false by rw [HLB.out]; exact decide_eq_false hlt)
        have HW := hid (lb_no15 HV.out)
        go_wp2_with (go_at_call 31; apply own_at hO; (repeat (first | (with_reducible exact hO) | (with_reducible apply Own.alloc) | (with_reducible apply Own.drew) | ((with_reducible apply Own.set_at); (focus (show _ ≤ _; omega))))); have hG := hF; clear hF; clear hO; intro hO; (try simp only [World.size_alloc1, World.size_drew, Nat.reduceAdd] at hO); (try simp only [upd, updI, List.map_cons, List.map_nil, eq_self, if_true, if_false, reduceIte, Nat.add_eq_left, Nat.left_eq_add, Nat.reduceEqDiff, List.set_cons_zero, List.set_cons_succ, hG] at hO); clear hG; replace hO := own_rot15 hO; refine own_callE hO (fun hW => HCO.out _ _ hW) ?_; clear hO; rintro v L' w1 ⟨rfl, l2, hl2, rfl⟩ hO; (try simp only [World.size_alloc1, World.size_drew, Nat.reduceAdd] at hO); (try simp only [upd, updI, List.map_cons, List.map_nil, eq_self, if_true, if_false, reduceIte, Nat.add_eq_left, Nat.left_eq_add, Nat.reduceEqDiff, List.set_cons_zero, List.set_cons_succ] at hO); have hF := hO; (try simp only [Own, Item.Holds, apartI, CellsAt, Nat.reduceAdd, Nat.zero_add, List.mem_cons, List.not_mem_nil, or_false, forall_eq_or_imp, forall_eq, ne_eq, false_imp_iff, implies_true, and_true] at hF))
        go_ret2
        rw [HV.out, HW.out]
        exact RowOutB.mk (Own.nilRow 37 3 hO)
  · have hb' : soB f c lo hi = false := by simpa using hb
    have HV := hid (show lbB f c lo hi m = false by
      unfold lbB clZ
      rw [if_neg hb]
      by_cases h : 0 ≤ m
      · rw [decide_eq_false (show ¬ m < -1 by omega), Bool.and_false]
      · rw [decide_eq_false h, Bool.false_and])
    have HW := hid (lb_no15 HV.out)
    have HC := hid (fun (W : World) (hW : Below w.heap.size w W) => cmI_no f lo hi va c W (hs.below hW) hn (hA.below hW) hb')
    obtain ⟨A, ca, rfl, nb, _⟩ := hs.open
    clear hs hn hT hA hb hb'
    go_enter Tryd.func16, Tryd.ntmps16
    go_wp2_with (go_at_call 30; apply own_at hO; (repeat (first | (with_reducible exact hO) | (with_reducible apply Own.alloc) | (with_reducible apply Own.drew) | ((with_reducible apply Own.set_at); (focus (show _ ≤ _; omega))))); have hG := hF; clear hF; clear hO; intro hO; refine own_call hO (fun hB => HC.out _ hB) ?_; clear hO; intro w1 hO; (try simp only [World.size_alloc1, World.size_drew, Nat.reduceAdd] at hO); (try simp only [upd, updI, List.map_cons, List.map_nil, eq_self, if_true, if_false, reduceIte, Nat.add_eq_left, Nat.left_eq_add, Nat.reduceEqDiff, List.set_cons_zero, List.set_cons_succ, hG] at hO); clear hG; have hF := hO; (try simp only [Own, Item.Holds, apartI, CellsAt, Nat.reduceAdd, Nat.zero_add, List.mem_cons, List.not_mem_nil, or_false, forall_eq_or_imp, forall_eq, ne_eq, false_imp_iff, implies_true, and_true] at hF))
    go_ret2
    rw [HV.out, HW.out]
    exact RowOutB.mk (Own.nilRow 37 3 hO.alloc)
theorem numberI_C (w : World) (ht : TabH w) (hA : TabA w) : CNu 16 w := fun f lo hi m va c W hW _ _ _ _ hs hn => numberI_any f lo hi m va c W hs hn (ht.below hW) (hA.below hW)

set_option maxHeartbeats 1000000 in
theorem completeI_any (f lo hi : Int) (va : Value) (c : List Pt) (w : World) (hs : SlAt w va c.length 3 (pcC c)) (hn : c.length ≤ 1048576) (hT : TabH w) (hA : TabA w) :
    Calls Tryd.prog 14 #[.int .i64 f, va, .int .i64 lo, .int .i64 hi] w (RowOutB 37 3 (lnZ f c lo hi 0).length (pcC (lnZ f c lo hi 0)) (lbB f c lo hi 0) w) := by
  have hO := Own.start w
  have hF := True.intro
  have HN := hid (fun W (hW : Below w.heap.size w W) => numberI_any f lo hi 0 va c W (hs.below hW) hn (hT.below hW) (hA.below hW))
  obtain ⟨A, cA, rfl⟩ := hs.form
  obtain ⟨l, hl⟩ : ∃ l, lnZ f c lo hi 0 = l := ⟨_, rfl⟩
  obtain ⟨k, hk⟩ : ∃ k, l.length = k := ⟨_, rfl⟩
  obtain ⟨b, hb⟩ : ∃ b, lbB f c lo hi 0 = b := ⟨_, rfl⟩
  rw [hl, hk, hb] at HN ⊢
  clear hs hl hk hb hT hA
  go_enter Tryd.func14, Tryd.ntmps14
  go_wp2_with (go_at_call 16; apply own_at hO; (repeat (first | (with_reducible exact hO) | (with_reducible apply Own.alloc) | (with_reducible apply Own.drew) | ((with_reducible apply Own.set_at); (focus (show _ ≤ _; omega))))); have hG := hF; clear hF; clear hO; intro hO; refine own_call_rowB hO (fun hB => HN.out _ hB) ?_; clear hO; intro v w1 hO; (try simp only [World.size_alloc1, World.size_drew, Nat.reduceAdd] at hO); (try simp only [upd, updI, List.map_cons, List.map_nil, eq_self, if_true, if_false, reduceIte, Nat.add_eq_left, Nat.left_eq_add, Nat.reduceEqDiff, List.set_cons_zero, List.set_cons_succ, hG] at hO); clear hG; have hF := hO; (try simp only [Own, Item.Holds, apartI, CellsAt, Nat.reduceAdd, Nat.zero_add, List.mem_cons, List.not_mem_nil, or_false, forall_eq_or_imp, forall_eq, ne_eq, false_imp_iff, implies_true, and_true] at hF))
  go_ret2
  exact RowOutB.mk hO
theorem completeI_C (w : World) (ht : TabH w) (hA : TabA w) : CCp 14 w := fun f lo hi va c W hW _ _ _ hs hn => completeI_any f lo hi va c W hs hn (ht.below hW) (hA.below hW)
end Go.Proofs.YtieoobanpllmgaaDoor
