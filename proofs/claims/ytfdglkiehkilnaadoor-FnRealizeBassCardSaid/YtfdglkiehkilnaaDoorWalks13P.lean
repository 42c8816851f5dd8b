/- Chapter 13 in the program: the chords are taken out from which no way leads to the end. -/
import Derived.Test.YtfdglkiehkilnaaDoorWalks13W
import Derived.Test.YtfdglkiehkilnaaDoorRegionD
namespace Go.Proofs.YtfdglkiehkilnaaDoor
set_option linter.unusedSimpArgs false
set_option linter.unusedVariables false
set_option maxRecDepth 8000
open Go.RowKit Go.Joins

theorem own_setB {n q i : Nat} {B : World → Prop} {w : World} {L : List Item} {vs : List Value} {u : Value} (h : Own n B w (.blk q vs :: L)) : Own n B (w.setCell ⟨q, i, none⟩ u) (.blk q (vs.set i u) :: L) := by
  have h1 := Own.set_at (i := i) (u := u) h.1.1.2.1 h
  have h2 : upd (.blk q vs :: L) q i u = .blk q (vs.set i u) :: L := by
    unfold upd
    rw [List.map_cons, upd_none (fun x hx e => (h.1.2 x hx).to q e rfl)]
    simp only [updI, if_true]
  rwa [h2] at h1
/-- The number to which a pointer leads. -/
def cellP (w : World) (v : Value) : Nat := match v with
  | .pointer (some p) => (match w.cell? p with
    | some u => (intOf u).toNat
    | none => 0)
  | _ => 0
theorem cellP_of {w : World} {q : Nat} {k : IntKind} {x : Int} (h : w.cell? ⟨q, 0, none⟩ = some (.int k x)) : cellP w (.pointer (some ⟨q, 0, none⟩)) = x.toNat := by
  unfold cellP
  dsimp only
  rw [h]
  rfl
theorem itA_cons (p : Value × List (Value × List Pt)) (l : List (Value × List (Value × List Pt))) : itA (p :: l) = .row 23 1 p.1 p.2.length (vsO p.2) :: (rwP p.2 ++ itA l) := rfl
/-- How far the lists are gone through, from the end on. -/
def PR (SS : List (List (List Pt))) (N m : Nat) (As : List (Value × List (Value × List Pt))) : Prop :=
  As.length = N ∧ ∀ (i : Nat) (p : Value × List (Value × List Pt)), As[i]? = some p → ∃ T, SS[i]? = some T ∧ (i < m → lsO p.2 = T) ∧ (m ≤ i → lsO p.2 = T.filter (gdB (SS.drop (i + 1))))
theorem PR.start {SS : List (List (List Pt))} {N : Nat} {As : List (Value × List (Value × List Pt))} (h : As.length = N) (hs : SS.length = N) (hA : ∀ (i : Nat) (p : Value × List (Value × List Pt)), As[i]? = some p → SS[i]? = some (lsO p.2)) : PR SS N (N - 1) As :=
  ⟨h, fun i p hp => ⟨_, hA i p hp, fun _ => rfl, fun hi => by
    have := (List.getElem?_eq_some_iff.1 hp).1
    rw [List.drop_of_length_le (by omega)]
    exact (List.filter_eq_self.2 fun _ _ => rfl).symm⟩⟩
theorem PR.step {SS : List (List (List Pt))} {N a : Nat} {U V : List (Value × List (Value × List Pt))} {v v' v2 : Value} {es es' : List (Value × List Pt)} (h : PR SS N (a + 1) (U ++ (v, es) :: (v', es') :: V)) (hU : U.length = a) :
    PR SS N a (U ++ (v2, es.filter (fun c => !dlB es' c.2)) :: (v', es') :: V) := by
  obtain ⟨h1, h2⟩ := h
  refine ⟨by rw [← h1]; simp, fun i p hp => ?_⟩
  by_cases hi : i = a
  · subst hi
    rw [List.getElem?_append_right (by omega), hU, Nat.sub_self] at hp
    simp at hp
    subst hp
    obtain ⟨T, hT, g1, _⟩ := h2 i (v, es) (by rw [List.getElem?_append_right (by omega), hU, Nat.sub_self]; rfl)
    obtain ⟨T', hT', _, g2⟩ := h2 (i + 1) (v', es') (by rw [List.getElem?_append_right (by omega), hU, show i + 1 - i = 1 by omega]; rfl)
    have e1 := g1 (by omega)
    have e2 := g2 (by omega)
    dsimp only at e1 e2
    refine ⟨T, hT, fun h => by omega, fun _ => ?_⟩
    have hd : SS.drop (i + 1) = T' :: SS.drop (i + 1 + 1) := by
      have hlt := (List.getElem?_eq_some_iff.1 hT').1
      rw [List.getElem?_eq_getElem hlt] at hT'
      rw [List.drop_eq_getElem_cons hlt, Option.some.inj hT']
    rw [hd, ← e1]
    have hk : ∀ l, (!dlB es' l) = gdB (T' :: SS.drop (i + 1 + 1)) l := fun l => by
      rw [pn_step, ← e2, ← fb_stk]
      unfold dlB
      cases fbE l es' <;> rfl
    show (es.filter (fun c => !dlB es' c.2)).map (·.2) = _
    rw [List.filter_map]
    congr 1
    refine List.filter_congr fun c _ => ?_
    exact hk c.2
  · obtain ⟨T, g1, g2, g3⟩ := h2 i p (by
      rcases Nat.lt_or_ge i a with h | h
      · rw [List.getElem?_append_left (by omega)] at hp ⊢; exact hp
      · rw [List.getElem?_append_right (by omega)] at hp ⊢
        rw [hU] at hp ⊢
        obtain ⟨d, hd⟩ : ∃ d, i - a = d + 1 := ⟨i - a - 1, by omega⟩
        rw [hd] at hp ⊢
        simpa using hp)
    exact ⟨T, g1, fun h => g2 (by omega), fun h => g3 (by omega)⟩
theorem pr_set {U V : List (Value × List (Value × List Pt))} {p p' : Value × List (Value × List Pt)} {a : Nat} (hU : U.length = a) : ((U ++ p :: V).map (·.1)).set a p'.1 = (U ++ p' :: V).map (·.1) := by
  subst hU
  simp
/-- One list comes to the head; its chords stand behind it. -/
theorem ls_head {n : Nat} {B : World → Prop} {w : World} {b2 b1 s : Item} {U V : List (Value × List (Value × List Pt))} {p : Value × List (Value × List Pt)} {R : List Item} (h : Own n B w (b2 :: b1 :: s :: (itA (U ++ p :: V) ++ R))) :
    Own n B w (.row 23 1 p.1 p.2.length (vsO p.2) :: (rwP p.2 ++ (b2 :: b1 :: s :: (itA (U ++ V) ++ R)))) := by
  refine h.perm ?_
  rw [itA_append, itA_append, itA_cons]
  refine perm_cnt fun a => ?_
  simp only [List.count_append, List.count_cons]
  omega
/-- It goes back, with the chords that are left. -/
theorem ls_back {n : Nat} {B : World → Prop} {w : World} {bn b2 b1 s : Item} {U V : List (Value × List (Value × List Pt))} {v2 : Value} {es : List (Value × List Pt)} {P : Value × List Pt → Bool} {R : List Item} (h : Own n B w (bn :: s :: .row 23 1 v2 (es.filter P).length (vsO (es.filter P)) :: (rwP es ++ (b2 :: b1 :: (itA (U ++ V) ++ R))))) :
    Own n B w (bn :: b1 :: s :: (itA (U ++ (v2, es.filter P) :: V) ++ R)) := by
  have h1 : Own n B w (bn :: s :: .row 23 1 v2 (es.filter P).length (vsO (es.filter P)) :: (rwP (es.filter P) ++ (b1 :: (itA (U ++ V) ++ R)))) := by
    refine Own.sub (.cons_cons _ (.cons_cons _ (.cons_cons _ (List.Sublist.append ?_ (.cons _ (.refl _)))))) h
    exact (List.filter_sublist).map _
  refine h1.perm ?_
  rw [itA_append, itA_append, itA_cons]
  refine perm_cnt fun a => ?_
  simp only [List.count_append, List.count_cons]
  omega

/-- The list of lists comes to the head. -/
theorem own_search {n : Nat} {B : World → Prop} {w : World} {r b2 b1 s : Item} {E T : List Item} (h : Own n B w (r :: (E ++ (b2 :: b1 :: s :: T)))) : Own n B w (s :: r :: (E ++ (b2 :: b1 :: T))) := by
  refine h.perm (perm_cnt fun a => ?_)
  simp only [List.count_append, List.count_cons]
  omega

set_option maxRecDepth 20000 in
set_option maxHeartbeats 8000000 in
theorem prI_own {n : Nat} {B : World → Prop} {w : World} (qs cs N : Nat) (SS : List (List (List Pt))) (As : List (Value × List (Value × List Pt))) (R : List Item) (hN0 : 1 ≤ N) (hN : N ≤ 8) (hl : As.length = N) (hsl : SS.length = N)
    (hA : ∀ (i : Nat) (p : Value × List (Value × List Pt)), As[i]? = some p → SS[i]? = some (lsO p.2)) (h4 : ∀ (k : Nat) (S : List (List Pt)), SS[k]? = some S → S.length ≤ 1528823808 ∧ ∀ l ∈ S, l.length = 4) (hT : ∀ W, B W → TabH W)
    (hO : Own n B w (.row 49 1 (.slice (some ⟨qs, 0, none⟩) N cs) N (As.map (·.1)) :: (itA As ++ R))) :
    Calls Tryd.prog 83 #[.slice (some ⟨qs, 0, none⟩) N cs] w (OwnOut n B fun _ L' => ∃ As', L' = .row 49 1 (.slice (some ⟨qs, 0, none⟩) N cs) N (As'.map (·.1)) :: (itA As' ++ R) ∧ PR SS N 0 As') := by
  have hF := True.intro
  have HPR := hid (PR.start hl hsl hA)
  have HS4 := hid h4
  have HTB := hid hT
  clear hl hsl hA h4 hT
  have wN : IntKind.i64.wrap ((N : Int) - 1) = (N : Int) - 1 := IntWalk.i64_in _ (by omega)
  go_enter Tryd.func83, Tryd.ntmps83
  go_wp2_with fail
  have hO2 := (hO.alloc (t := 104) (vs := [.slice (some ⟨qs, 0, none⟩) N cs])).alloc (t := 3) (vs := [.int .i64 ((N : Int) - 1)])
  simp only [World.size_alloc1] at hO2
  clear hO
  have hO := hO2
  clear hO2
  obtain ⟨q1, hq1⟩ : ∃ q, w.heap.size = q := ⟨_, rfl⟩
  rw [hq1] at hO ⊢
  clear hq1
  go_loopw [2] (fun p2 wr => ∃ (m q2 : Nat) (As' : List (Value × List (Value × List Pt))), m ≤ N - 1 ∧ p2 = .pointer (some ⟨q2, 0, none⟩) ∧ Hid (PR SS N m As') ∧ Own n B wr (.blk q2 [.int .i64 m] :: .blk q1 [.slice (some ⟨qs, 0, none⟩) N cs] :: .row 49 1 (.slice (some ⟨qs, 0, none⟩) N cs) N (As'.map (·.1)) :: (itA As' ++ R))) (fun p2 wr => cellP wr p2)
  case atStart => exact ⟨N - 1, q1 + 1, As, by omega, rfl, HPR.out, by rw [show ((N - 1 : Nat) : Int) = (N : Int) - 1 by omega]; exact hO⟩
  case round =>
    clear hO hF HPR As
    obtain ⟨m, q2, As, hm, rfl, hpr, hO⟩ := hrel
    have e2 := hO.blk_cell (j := 0) List.mem_cons_self rfl
    have HME := hid (cellP_of e2)
    cases m with
    | zero =>
      rw [show ((0 : Nat) : Int) = 0 from rfl] at e2
      go_wp2_with fail
      refine bodyPost_end (results_none rfl _ _ _) rfl ?_
      exact ⟨_, _, rfl, ⟨As, rfl, hpr.out⟩, Own.sub (.cons _ (.cons _ (.refl _))) hO⟩
    | succ a =>
      rw [show ((a + 1 : Nat) : Int) = (a : Int) + 1 by omega] at e2
      have a0 : (0 : Int) ≤ (a : Int) := by omega
      have a1 : (0 : Int) < (a : Int) + 1 := by omega
      have wa : IntKind.i64.wrap ((a : Int) + 1 - 1) = (a : Int) := by rw [show (a : Int) + 1 - 1 = (a : Int) by omega]; exact IntWalk.i64_in _ (by omega)
      have a2 : (a : Int) < (N : Int) := by omega
      have wa2 : IntKind.i64.wrap (a : Int) = (a : Int) := IntWalk.i64_in _ (by omega)
      obtain ⟨⟨v, es⟩, hAa⟩ : ∃ p, As[a]? = some p := ⟨_, List.getElem?_eq_getElem (by have := hpr.out.1; omega)⟩
      obtain ⟨U, W', rfl, hU⟩ := split_G hAa
      have hWl : 0 < W'.length := by
        have := hpr.out.1
        rw [List.length_append, List.length_cons] at this
        omega
      obtain ⟨⟨v', es'⟩, V, rfl⟩ : ∃ p V, W' = p :: V := by
        cases W' with
        | nil => simp at hWl
        | cons p V => exact ⟨p, V, rfl⟩
      have hA1 : (U ++ (v, es) :: (v', es') :: V)[a + 1]? = some (v', es') := by rw [List.getElem?_append_right (by omega), hU, show a + 1 - a = 1 by omega]; rfl
      have HE4 := hid (show es.length ≤ 1528823808 ∧ ∀ c ∈ es, c.2.length = 4 from by
        obtain ⟨T, g1, g2, _⟩ := hpr.out.2 a _ hAa
        have g3 := g2 (by omega)
        dsimp only at g3
        obtain ⟨g4, g5⟩ := HS4.out a T g1
        rw [← g3] at g4 g5
        rw [List.length_map] at g4
        exact ⟨g4, fun c hc => g5 _ (List.mem_map_of_mem hc)⟩)
      have HE4' := hid (show es'.length ≤ 1528823808 ∧ ∀ c ∈ es', c.2.length = 4 from by
        obtain ⟨T, g1, _, g2⟩ := hpr.out.2 (a + 1) _ hA1
        have g3 := g2 (by omega)
        dsimp only at g3
        obtain ⟨g4, g5⟩ := HS4.out (a + 1) T g1
        have g6 := List.length_filter_le (gdB (SS.drop (a + 1 + 1))) T
        rw [← g3, List.length_map] at g6
        refine ⟨by omega, fun c hc => g5 _ ?_⟩
        have : c.2 ∈ lsO es' := List.mem_map_of_mem hc
        rw [g3] at this
        exact (List.mem_filter.1 this).1)
      obtain ⟨Av, cv, hvf⟩ := (SlAt.of_row (hO.holds (.row 23 1 v es.length (vsO es)) (List.mem_cons_of_mem _ (List.mem_cons_of_mem _ (List.mem_cons_of_mem _ (List.mem_append_left _ (itA_row hAa))))))).form
      subst hvf
      have HVA := hid (show ((U ++ (.slice Av es.length cv, es) :: (v', es') :: V).map (·.1))[a]? = some (.slice Av es.length cv) by rw [List.getElem?_map, hAa]; rfl)
      have HVB := hid (show ((U ++ (.slice Av es.length cv, es) :: (v', es') :: V).map (·.1))[a + 1]? = some v' by rw [List.getElem?_map, hA1]; rfl)
      have HNX := hid (fun (v2 : Value) => hpr.out.step (v2 := v2) hU)
      have HST := hid (fun (v2 : Value) => pr_set (V := (v', es') :: V) (p := (.slice Av es.length cv, es)) (p' := (v2, es.filter (fun c => !dlB es' c.2))) hU)
      replace hO := ls_head hO
      dsimp only at hO
      obtain ⟨rvs, hrv⟩ : ∃ l, (U ++ (.slice Av es.length cv, es) :: (v', es') :: V).map (·.1) = l := ⟨_, rfl⟩
      rw [hrv] at hO HVA HVB HST
      have HDF := hid (fun W (hW : Own n B W (.row 23 1 (.slice Av es.length cv) es.length (vsO es) :: (rwP es ++ (.blk q2 [.int .i64 ((a + 1 : Nat) : Int)] :: .blk q1 [.slice (some ⟨qs, 0, none⟩) N cs] :: .row 49 1 (.slice (some ⟨qs, 0, none⟩) N cs) N rvs :: (itA (U ++ (v', es') :: V) ++ R))))) =>
        dfI_own q1 q2 (.slice Av es.length cv) es (dlB es') hW HE4.out.1 (fun c hc => by
          obtain ⟨A, k, h⟩ := (SlAt.of_row (hW.holds (.row 29 3 c.1 c.2.length (pcC c.2)) (List.mem_cons_of_mem _ (List.mem_append_left _ (List.mem_map_of_mem hc))))).form
          exact ⟨A, _, k, h⟩) (fun W2 xs h2 c hc => by
          have hA2 : (U ++ (v', es') :: V)[a]? = some (v', es') := by rw [List.getElem?_append_right (by omega), hU, Nat.sub_self]; rfl
          have hc4 := HE4.out.2 c hc
          refine pcI_any q1 q2 qs cs N (a + 1) c.1 v' c.2 es' W2 (by omega) hN (h2.blk_cell (j := 0) (List.mem_cons_of_mem _ (List.mem_append_right _ (List.mem_cons_of_mem _ List.mem_cons_self))) rfl) (h2.blk_cell (j := 0) (List.mem_cons_of_mem _ (List.mem_append_right _ List.mem_cons_self)) rfl) (h2.mem_cell (List.mem_cons_of_mem _ (List.mem_append_right _ (List.mem_cons_of_mem _ (List.mem_cons_of_mem _ List.mem_cons_self)))) HVB.out) hc4 ?_ ?_ HE4'.out.2 ?_ HE4'.out.1 (HTB.out _ h2.base)
          · have := SlAt.of_row (h2.holds (.row 29 3 c.1 c.2.length (pcC c.2)) (List.mem_cons_of_mem _ (List.mem_append_left _ (List.mem_map_of_mem hc))))
            rwa [hc4] at this
          · exact SlAt.of_row (h2.holds (.row 23 1 v' es'.length (vsO es')) (List.mem_cons_of_mem _ (List.mem_append_right _ (List.mem_cons_of_mem _ (List.mem_cons_of_mem _ (List.mem_cons_of_mem _ (List.mem_append_left _ (itA_row hA2))))))))
          · intro c' hc'
            have := SlAt.of_row (h2.holds (.row 29 3 c'.1 c'.2.length (pcC c'.2)) (List.mem_cons_of_mem _ (List.mem_append_right _ (List.mem_cons_of_mem _ (List.mem_cons_of_mem _ (List.mem_cons_of_mem _ (List.mem_append_left _ (itA_mem hA2 hc'))))))))
            rwa [HE4'.out.2 c' hc'] at this))
      clear hAa hA1 hWl hU hrv
      have hF := True.intro
      go_wp2_with fail
      clear e2
      apply own_code hO
      (repeat (first | (with_reducible exact hO) | (with_reducible apply Own.alloc) | (with_reducible apply Own.drew) | ((with_reducible apply Own.set_at); (focus (show _ ≤ _; omega)))))
      have hG := hF; clear hF; clear hO; intro hO
      (try simp only [World.size_alloc1, World.size_drew, Nat.reduceAdd] at hO); (try simp only [upd, updI, List.map_cons, List.map_nil, eq_self, if_true, if_false, reduceIte, Nat.add_eq_left, Nat.left_eq_add, Nat.reduceEqDiff, List.set_cons_zero, List.set_cons_succ, hG] at hO); clear hG
      refine region_own (X := fun _ => True) [9, 11] (by kernel_rfl) (hO) (trivial) (by first | exact XStab.true | exact XStab.rd | exact XStab.rdIf) ?_
      clear hO
      refine Sim.sD (i := 3) (d := some 13) (v := ?_) (D := [3, 6, 7, 9, 10, 11]) (hy := ?_) (h := ?_)
      rotate_left
      · first | refine Or.inl ⟨by rfl, fun w hO => ?_⟩ | (refine Or.inr ⟨by rfl, ?_⟩; with_reducible rfl)
        first | done | (have hF := hO; (try simp only [Own, Item.Holds, apartI, CellsAt, Nat.reduceAdd, Nat.zero_add, List.mem_cons, List.not_mem_nil, or_false, forall_eq_or_imp, forall_eq, ne_eq, false_imp_iff, implies_true, and_true] at hF); ((have f1 := hO.blk_cell (b := q1) (j := 0) (v := .slice (some ⟨qs, 0, none⟩) N cs) (List.mem_cons_of_mem _ (List.mem_append_right _ (List.mem_cons_of_mem _ List.mem_cons_self))) rfl; have f2 := hO.blk_cell (b := q2) (j := 0) (v := .int .i64 ((a + 1 : Nat) : Int)) (List.mem_cons_of_mem _ (List.mem_append_right _ List.mem_cons_self)) rfl; rw [show ((a + 1 : Nat) : Int) = (a : Int) + 1 by omega] at f2; have f3 := hO.mem_cell (i := a) (List.mem_cons_of_mem _ (List.mem_append_right _ (List.mem_cons_of_mem _ (List.mem_cons_of_mem _ List.mem_cons_self)))) HVA.out; have f4 := hO.mem_free (List.mem_cons_of_mem _ (List.mem_append_right _ (List.mem_cons_of_mem _ (List.mem_cons_of_mem _ List.mem_cons_self)))) a)); refine Out.same ?_; go_simp; all_goals with_reducible rfl)
      refine Sim.sD (i := 4) (d := some 14) (v := ?_) (D := [4, 5, 6, 7, 9, 10, 11]) (hy := ?_) (h := ?_)
      rotate_left
      · first | refine Or.inl ⟨by rfl, fun w hO => ?_⟩ | (refine Or.inr ⟨by rfl, ?_⟩; with_reducible rfl)
        first | done | (have hF := hO; (try simp only [Own, Item.Holds, apartI, CellsAt, Nat.reduceAdd, Nat.zero_add, List.mem_cons, List.not_mem_nil, or_false, forall_eq_or_imp, forall_eq, ne_eq, false_imp_iff, implies_true, and_true] at hF); ((have f1 := hO.blk_cell (b := q1) (j := 0) (v := .slice (some ⟨qs, 0, none⟩) N cs) (List.mem_cons_of_mem _ (List.mem_append_right _ (List.mem_cons_of_mem _ List.mem_cons_self))) rfl; have f2 := hO.blk_cell (b := q2) (j := 0) (v := .int .i64 ((a + 1 : Nat) : Int)) (List.mem_cons_of_mem _ (List.mem_append_right _ List.mem_cons_self)) rfl; rw [show ((a + 1 : Nat) : Int) = (a : Int) + 1 by omega] at f2; have f3 := hO.mem_cell (i := a) (List.mem_cons_of_mem _ (List.mem_append_right _ (List.mem_cons_of_mem _ (List.mem_cons_of_mem _ List.mem_cons_self)))) HVA.out; have f4 := hO.mem_free (List.mem_cons_of_mem _ (List.mem_append_right _ (List.mem_cons_of_mem _ (List.mem_cons_of_mem _ List.mem_cons_self)))) a)); refine Out.same ?_; go_simp; all_goals with_reducible rfl)
      refine Sim.sP (i := 5) (d := some 15) (h := ?_)
      refine Sim.sP (i := 6) (d := some 16) (h := ?_)
      refine Sim.sO (i := 7) (d := some 17) (v := ?_) (hy := ?_) (h := ?_)
      rotate_left
      · first | refine Or.inl ⟨by rfl, fun w hO => ?_⟩ | (refine Or.inr ⟨by rfl, ?_⟩; with_reducible rfl)
        first | done | (have hF := hO; (try simp only [Own, Item.Holds, apartI, CellsAt, Nat.reduceAdd, Nat.zero_add, List.mem_cons, List.not_mem_nil, or_false, forall_eq_or_imp, forall_eq, ne_eq, false_imp_iff, implies_true, and_true] at hF); ((have f1 := hO.blk_cell (b := q1) (j := 0) (v := .slice (some ⟨qs, 0, none⟩) N cs) (List.mem_cons_of_mem _ (List.mem_append_right _ (List.mem_cons_of_mem _ List.mem_cons_self))) rfl; have f2 := hO.blk_cell (b := q2) (j := 0) (v := .int .i64 ((a + 1 : Nat) : Int)) (List.mem_cons_of_mem _ (List.mem_append_right _ List.mem_cons_self)) rfl; rw [show ((a + 1 : Nat) : Int) = (a : Int) + 1 by omega] at f2; have f3 := hO.mem_cell (i := a) (List.mem_cons_of_mem _ (List.mem_append_right _ (List.mem_cons_of_mem _ (List.mem_cons_of_mem _ List.mem_cons_self)))) HVA.out; have f4 := hO.mem_free (List.mem_cons_of_mem _ (List.mem_append_right _ (List.mem_cons_of_mem _ (List.mem_cons_of_mem _ List.mem_cons_self)))) a)); refine Out.same ?_; go_simp; all_goals with_reducible rfl)
      refine Sim.sP (i := 8) (d := some 18) (h := ?_)
      refine Sim.many (rs := [0, 1, 9]) (by kernel_rfl) (by decide) ?_
      refine AllS.cons (oi := { dst := some 10, op := Op.load 104 (Operand.tmp 1), type := 104, pos := "l13_figured_bass.go:107", after := #[], guard := none }) rfl (by rfl) (fun w0 hO hX K hK => ?_) ?_
      rotate_left
      refine AllS.cons (oi := { dst := some 11, op := Op.load 3 (Operand.tmp 2), type := 3, pos := "l13_figured_bass.go:107", after := #[], guard := none }) rfl (by rfl) (fun w0 hO hX K hK => ?_) ?_
      rotate_left
      refine AllS.cons (oi := { dst := some 19, op := Op.call { callee := Callee.value (Operand.func 107), args := #[Operand.tmp 17, Operand.tmp 18], argTypes := #[49, 117] }, type := 49, pos := "l13_figured_bass.go:107", after := #[{ on := 7, ground := Ground.data }, { on := 8, ground := Ground.data }], guard := none }) rfl (by rfl) (fun w0 hO hX K hK => ?_) ?_
      rotate_left
      exact AllS.nil
      rotate_right 3
      have hF := hO; (try simp only [Own, Item.Holds, apartI, CellsAt, Nat.reduceAdd, Nat.zero_add, List.mem_cons, List.not_mem_nil, or_false, forall_eq_or_imp, forall_eq, ne_eq, false_imp_iff, implies_true, and_true] at hF); ((have f1 := hO.blk_cell (b := q1) (j := 0) (v := .slice (some ⟨qs, 0, none⟩) N cs) (List.mem_cons_of_mem _ (List.mem_append_right _ (List.mem_cons_of_mem _ List.mem_cons_self))) rfl; have f2 := hO.blk_cell (b := q2) (j := 0) (v := .int .i64 ((a + 1 : Nat) : Int)) (List.mem_cons_of_mem _ (List.mem_append_right _ List.mem_cons_self)) rfl; rw [show ((a + 1 : Nat) : Int) = (a : Int) + 1 by omega] at f2; have f3 := hO.mem_cell (i := a) (List.mem_cons_of_mem _ (List.mem_append_right _ (List.mem_cons_of_mem _ (List.mem_cons_of_mem _ List.mem_cons_self)))) HVA.out; have f4 := hO.mem_free (List.mem_cons_of_mem _ (List.mem_append_right _ (List.mem_cons_of_mem _ (List.mem_cons_of_mem _ List.mem_cons_self)))) a))
      go_simp
      apply hK _ _ _ (fun _ => True)
      (repeat (first | (with_reducible exact hO) | (with_reducible apply Own.alloc) | (with_reducible apply Own.drew) | ((with_reducible apply Own.set_at); (focus (show _ ≤ _; omega)))))
      · first | exact trivial | exact hX | exact hX.below (below1 _) | exact RdIf.gone | exact hX.keep ((Below.refl _ _).setCell (by first | omega | (dsimp only; omega)) _)
      · exact (by first | exact XStab.true | exact XStab.rd | exact XStab.rdIf)
      · first | exact fun _ _ h => h.2 | exact fun _ _ h => h | exact fun h => absurd h (by decide)
      try simp only [upd, updI, List.map_cons, List.map_nil, eq_self, if_true, if_false, reduceIte, Nat.add_eq_left, Nat.left_eq_add, Nat.reduceEqDiff, List.set_cons_zero, List.set_cons_succ, hF]
      clear hK K hF hO
      try simp only [Act.put, List.setIfInBounds_toArray, List.set_cons_zero, List.set_cons_succ]
      refine Sim.many (rs := [1, 9]) (by kernel_rfl) (by decide) ?_
      refine AllS.cons (oi := { dst := some 11, op := Op.load 3 (Operand.tmp 2), type := 3, pos := "l13_figured_bass.go:107", after := #[], guard := none }) rfl (by rfl) (fun w0 hO hX K hK => ?_) ?_
      rotate_left
      refine AllS.cons (oi := { dst := some 19, op := Op.call { callee := Callee.value (Operand.func 107), args := #[Operand.tmp 17, Operand.tmp 18], argTypes := #[49, 117] }, type := 49, pos := "l13_figured_bass.go:107", after := #[{ on := 7, ground := Ground.data }, { on := 8, ground := Ground.data }], guard := none }) rfl (by rfl) (fun w0 hO hX K hK => ?_) ?_
      rotate_left
      exact AllS.nil
      rotate_right 2
      have hF := hO; (try simp only [Own, Item.Holds, apartI, CellsAt, Nat.reduceAdd, Nat.zero_add, List.mem_cons, List.not_mem_nil, or_false, forall_eq_or_imp, forall_eq, ne_eq, false_imp_iff, implies_true, and_true] at hF); ((have f1 := hO.blk_cell (b := q1) (j := 0) (v := .slice (some ⟨qs, 0, none⟩) N cs) (List.mem_cons_of_mem _ (List.mem_append_right _ (List.mem_cons_of_mem _ List.mem_cons_self))) rfl; have f2 := hO.blk_cell (b := q2) (j := 0) (v := .int .i64 ((a + 1 : Nat) : Int)) (List.mem_cons_of_mem _ (List.mem_append_right _ List.mem_cons_self)) rfl; rw [show ((a + 1 : Nat) : Int) = (a : Int) + 1 by omega] at f2; have f3 := hO.mem_cell (i := a) (List.mem_cons_of_mem _ (List.mem_append_right _ (List.mem_cons_of_mem _ (List.mem_cons_of_mem _ List.mem_cons_self)))) HVA.out; have f4 := hO.mem_free (List.mem_cons_of_mem _ (List.mem_append_right _ (List.mem_cons_of_mem _ (List.mem_cons_of_mem _ List.mem_cons_self)))) a))
      go_simp
      apply hK _ _ _ (fun _ => True)
      (repeat (first | (with_reducible exact hO) | (with_reducible apply Own.alloc) | (with_reducible apply Own.drew) | ((with_reducible apply Own.set_at); (focus (show _ ≤ _; omega)))))
      · first | exact trivial | exact hX | exact hX.below (below1 _) | exact RdIf.gone | exact hX.keep ((Below.refl _ _).setCell (by first | omega | (dsimp only; omega)) _)
      · exact (by first | exact XStab.true | exact XStab.rd | exact XStab.rdIf)
      · first | exact fun _ _ h => h.2 | exact fun _ _ h => h | exact fun h => absurd h (by decide)
      try simp only [upd, updI, List.map_cons, List.map_nil, eq_self, if_true, if_false, reduceIte, Nat.add_eq_left, Nat.left_eq_add, Nat.reduceEqDiff, List.set_cons_zero, List.set_cons_succ, hF]
      clear hK K hF hO
      try simp only [Act.put, List.setIfInBounds_toArray, List.set_cons_zero, List.set_cons_succ]
      refine Sim.sP (i := 2) (d := some 12) (h := ?_)
      refine Sim.one' (i := 9) (oi := { dst := some 19, op := Op.call { callee := Callee.value (Operand.func 107), args := #[Operand.tmp 17, Operand.tmp 18], argTypes := #[49, 117] }, type := 49, pos := "l13_figured_bass.go:107", after := #[{ on := 7, ground := Ground.data }, { on := 8, ground := Ground.data }], guard := none }) (by kernel_rfl) rfl (by rfl) (fun w0 hO hX K hK => ?_)
      (have hF := hO; (try simp only [Own, Item.Holds, apartI, CellsAt, Nat.reduceAdd, Nat.zero_add, List.mem_cons, List.not_mem_nil, or_false, forall_eq_or_imp, forall_eq, ne_eq, false_imp_iff, implies_true, and_true] at hF))
      go_simp
      refine (HDF.out _ hO).mono ?_
      rintro e wa ⟨v2, L', rfl, rfl, ho⟩
      obtain ⟨A2, k2, hv2⟩ := (SlAt.of_row ho.1.1).form
      subst hv2
      apply hK _ _ _ (fun _ => True)
      · exact ho
      · exact trivial
      · exact XStab.true
      · exact fun h => absurd h (by decide)
      clear ho hO hF
      clear hK K
      try simp only [Act.put, List.setIfInBounds_toArray, List.set_cons_zero, List.set_cons_succ]
      refine Sim.sP (i := 10) (d := some 20) (h := ?_)
      refine Sim.one' (i := 11) (oi := { dst := none, op := Op.store 49 (Operand.tmp 20) (Operand.tmp 19), type := 0, pos := "l13_figured_bass.go:107", after := #[{ on := 10, ground := Ground.data }, { on := 9, ground := Ground.data }, { on := 9, ground := Ground.chain }, { on := 0, ground := Ground.phase }, { on := 1, ground := Ground.phase }, { on := 2, ground := Ground.phase }, { on := 3, ground := Ground.phase }, { on := 4, ground := Ground.phase }, { on := 5, ground := Ground.phase }, { on := 6, ground := Ground.phase }, { on := 7, ground := Ground.phase }, { on := 8, ground := Ground.phase }, { on := 9, ground := Ground.phase }], guard := none }) (by kernel_rfl) rfl (by rfl) (fun w0 hO hX K hK => ?_)
      (have hF := hO; (try simp only [Own, Item.Holds, apartI, CellsAt, Nat.reduceAdd, Nat.zero_add, List.mem_cons, List.not_mem_nil, or_false, forall_eq_or_imp, forall_eq, ne_eq, false_imp_iff, implies_true, and_true] at hF); (have f1 := hO.blk_cell (b := q1) (j := 0) (v := .slice (some ⟨qs, 0, none⟩) N cs) (List.mem_cons_of_mem _ (List.mem_append_right _ (List.mem_cons_of_mem _ List.mem_cons_self))) rfl; have f2 := hO.blk_cell (b := q2) (j := 0) (v := .int .i64 ((a + 1 : Nat) : Int)) (List.mem_cons_of_mem _ (List.mem_append_right _ List.mem_cons_self)) rfl; rw [show ((a + 1 : Nat) : Int) = (a : Int) + 1 by omega] at f2; have f3 := hO.mem_cell (i := a) (List.mem_cons_of_mem _ (List.mem_append_right _ (List.mem_cons_of_mem _ (List.mem_cons_of_mem _ List.mem_cons_self)))) HVA.out; have f4 := hO.mem_free (List.mem_cons_of_mem _ (List.mem_append_right _ (List.mem_cons_of_mem _ (List.mem_cons_of_mem _ List.mem_cons_self)))) a))
      go_simp
      apply hK _ _ _ (fun _ => True)
      · exact (own_search hO).row_set a _
      · exact trivial
      · exact XStab.true
      · exact fun h => absurd h (by decide)
      clear hO hF
      clear hK K
      try simp only [Act.put, List.setIfInBounds_toArray, List.set_cons_zero, List.set_cons_succ]
      refine Sim.done (by kernel_rfl) (fun w1 hO hX => ?_) _
      (try simp only [World.size_alloc1, World.size_drew, Nat.reduceAdd] at hO); (try simp only [upd, updI, List.map_cons, List.map_nil, eq_self, if_true, if_false, reduceIte, Nat.add_eq_left, Nat.left_eq_add, Nat.reduceEqDiff, List.set_cons_zero, List.set_cons_succ] at hO)
      have hF := hO; (try simp only [Own, Item.Holds, apartI, CellsAt, Nat.reduceAdd, Nat.zero_add, List.mem_cons, List.not_mem_nil, or_false, forall_eq_or_imp, forall_eq, ne_eq, false_imp_iff, implies_true, and_true] at hF)
      rotate_left 1
      (have hF := hO; (try simp only [Own, Item.Holds, apartI, CellsAt, Nat.reduceAdd, Nat.zero_add, List.mem_cons, List.not_mem_nil, or_false, forall_eq_or_imp, forall_eq, ne_eq, false_imp_iff, implies_true, and_true] at hF))
      go_simp
      refine (HDF.out _ hO).mono ?_
      rintro e wa ⟨v2, L', rfl, rfl, ho⟩
      obtain ⟨A2, k2, hv2⟩ := (SlAt.of_row ho.1.1).form
      subst hv2
      apply hK _ _ _ (fun _ => True)
      · exact ho
      · exact trivial
      · exact XStab.true
      · exact fun h => absurd h (by decide)
      clear ho hO hF
      clear hK K
      try simp only [Act.put, List.setIfInBounds_toArray, List.set_cons_zero, List.set_cons_succ]
      refine Sim.sO (i := 1) (d := some 11) (v := ?_) (hy := ?_) (h := ?_)
      rotate_left
      · first | refine Or.inl ⟨by rfl, fun w hO => ?_⟩ | (refine Or.inr ⟨by rfl, ?_⟩; with_reducible rfl)
        first | done | (have hF := hO; (try simp only [Own, Item.Holds, apartI, CellsAt, Nat.reduceAdd, Nat.zero_add, List.mem_cons, List.not_mem_nil, or_false, forall_eq_or_imp, forall_eq, ne_eq, false_imp_iff, implies_true, and_true] at hF); ((have f1 := hO.blk_cell (b := q1) (j := 0) (v := .slice (some ⟨qs, 0, none⟩) N cs) (List.mem_cons_of_mem _ (List.mem_append_right _ (List.mem_cons_of_mem _ List.mem_cons_self))) rfl; have f2 := hO.blk_cell (b := q2) (j := 0) (v := .int .i64 ((a + 1 : Nat) : Int)) (List.mem_cons_of_mem _ (List.mem_append_right _ List.mem_cons_self)) rfl; rw [show ((a + 1 : Nat) : Int) = (a : Int) + 1 by omega] at f2; have f3 := hO.mem_cell (i := a) (List.mem_cons_of_mem _ (List.mem_append_right _ (List.mem_cons_of_mem _ (List.mem_cons_of_mem _ List.mem_cons_self)))) HVA.out; have f4 := hO.mem_free (List.mem_cons_of_mem _ (List.mem_append_right _ (List.mem_cons_of_mem _ (List.mem_cons_of_mem _ List.mem_cons_self)))) a)); refine Out.same ?_; go_simp; all_goals with_reducible rfl)
      refine Sim.sP (i := 2) (d := some 12) (h := ?_)
      refine Sim.sP (i := 10) (d := some 20) (h := ?_)
      refine Sim.one' (i := 11) (oi := { dst := none, op := Op.store 49 (Operand.tmp 20) (Operand.tmp 19), type := 0, pos := "l13_figured_bass.go:107", after := #[{ on := 10, ground := Ground.data }, { on := 9, ground := Ground.data }, { on := 9, ground := Ground.chain }, { on := 0, ground := Ground.phase }, { on := 1, ground := Ground.phase }, { on := 2, ground := Ground.phase }, { on := 3, ground := Ground.phase }, { on := 4, ground := Ground.phase }, { on := 5, ground := Ground.phase }, { on := 6, ground := Ground.phase }, { on := 7, ground := Ground.phase }, { on := 8, ground := Ground.phase }, { on := 9, ground := Ground.phase }], guard := none }) (by kernel_rfl) rfl (by rfl) (fun w0 hO hX K hK => ?_)
      (have hF := hO; (try simp only [Own, Item.Holds, apartI, CellsAt, Nat.reduceAdd, Nat.zero_add, List.mem_cons, List.not_mem_nil, or_false, forall_eq_or_imp, forall_eq, ne_eq, false_imp_iff, implies_true, and_true] at hF); (have f1 := hO.blk_cell (b := q1) (j := 0) (v := .slice (some ⟨qs, 0, none⟩) N cs) (List.mem_cons_of_mem _ (List.mem_append_right _ (List.mem_cons_of_mem _ List.mem_cons_self))) rfl; have f2 := hO.blk_cell (b := q2) (j := 0) (v := .int .i64 ((a + 1 : Nat) : Int)) (List.mem_cons_of_mem _ (List.mem_append_right _ List.mem_cons_self)) rfl; rw [show ((a + 1 : Nat) : Int) = (a : Int) + 1 by omega] at f2; have f3 := hO.mem_cell (i := a) (List.mem_cons_of_mem _ (List.mem_append_right _ (List.mem_cons_of_mem _ (List.mem_cons_of_mem _ List.mem_cons_self)))) HVA.out; have f4 := hO.mem_free (List.mem_cons_of_mem _ (List.mem_append_right _ (List.mem_cons_of_mem _ (List.mem_cons_of_mem _ List.mem_cons_self)))) a))
      go_simp
      apply hK _ _ _ (fun _ => True)
      · exact (own_search hO).row_set a _
      · exact trivial
      · exact XStab.true
      · exact fun h => absurd h (by decide)
      clear hO hF
      clear hK K
      try simp only [Act.put, List.setIfInBounds_toArray, List.set_cons_zero, List.set_cons_succ]
      refine Sim.done (by kernel_rfl) (fun w1 hO hX => ?_) _
      (try simp only [World.size_alloc1, World.size_drew, Nat.reduceAdd] at hO); (try simp only [upd, updI, List.map_cons, List.map_nil, eq_self, if_true, if_false, reduceIte, Nat.add_eq_left, Nat.left_eq_add, Nat.reduceEqDiff, List.set_cons_zero, List.set_cons_succ] at hO)
      have hF := hO; (try simp only [Own, Item.Holds, apartI, CellsAt, Nat.reduceAdd, Nat.zero_add, List.mem_cons, List.not_mem_nil, or_false, forall_eq_or_imp, forall_eq, ne_eq, false_imp_iff, implies_true, and_true] at hF)
      rotate_left 1
      have hF := hO; (try simp only [Own, Item.Holds, apartI, CellsAt, Nat.reduceAdd, Nat.zero_add, List.mem_cons, List.not_mem_nil, or_false, forall_eq_or_imp, forall_eq, ne_eq, false_imp_iff, implies_true, and_true] at hF); ((have f1 := hO.blk_cell (b := q1) (j := 0) (v := .slice (some ⟨qs, 0, none⟩) N cs) (List.mem_cons_of_mem _ (List.mem_append_right _ (List.mem_cons_of_mem _ List.mem_cons_self))) rfl; have f2 := hO.blk_cell (b := q2) (j := 0) (v := .int .i64 ((a + 1 : Nat) : Int)) (List.mem_cons_of_mem _ (List.mem_append_right _ List.mem_cons_self)) rfl; rw [show ((a + 1 : Nat) : Int) = (a : Int) + 1 by omega] at f2; have f3 := hO.mem_cell (i := a) (List.mem_cons_of_mem _ (List.mem_append_right _ (List.mem_cons_of_mem _ (List.mem_cons_of_mem _ List.mem_cons_self)))) HVA.out; have f4 := hO.mem_free (List.mem_cons_of_mem _ (List.mem_append_right _ (List.mem_cons_of_mem _ (List.mem_cons_of_mem _ List.mem_cons_self)))) a))
      go_simp
      apply hK _ _ _ (fun _ => True)
      (repeat (first | (with_reducible exact hO) | (with_reducible apply Own.alloc) | (with_reducible apply Own.drew) | ((with_reducible apply Own.set_at); (focus (show _ ≤ _; omega)))))
      · first | exact trivial | exact hX | exact hX.below (below1 _) | exact RdIf.gone | exact hX.keep ((Below.refl _ _).setCell (by first | omega | (dsimp only; omega)) _)
      · exact (by first | exact XStab.true | exact XStab.rd | exact XStab.rdIf)
      · first | exact fun _ _ h => h.2 | exact fun _ _ h => h | exact fun h => absurd h (by decide)
      try simp only [upd, updI, List.map_cons, List.map_nil, eq_self, if_true, if_false, reduceIte, Nat.add_eq_left, Nat.left_eq_add, Nat.reduceEqDiff, List.set_cons_zero, List.set_cons_succ, hF]
      clear hK K hF hO
      try simp only [Act.put, List.setIfInBounds_toArray, List.set_cons_zero, List.set_cons_succ]
      refine Sim.sP (i := 2) (d := some 12) (h := ?_)
      refine Sim.many (rs := [0, 9]) (by kernel_rfl) (by decide) ?_
      refine AllS.cons (oi := { dst := some 10, op := Op.load 104 (Operand.tmp 1), type := 104, pos := "l13_figured_bass.go:107", after := #[], guard := none }) rfl (by rfl) (fun w0 hO hX K hK => ?_) ?_
      rotate_left
      refine AllS.cons (oi := { dst := some 19, op := Op.call { callee := Callee.value (Operand.func 107), args := #[Operand.tmp 17, Operand.tmp 18], argTypes := #[49, 117] }, type := 49, pos := "l13_figured_bass.go:107", after := #[{ on := 7, ground := Ground.data }, { on := 8, ground := Ground.data }], guard := none }) rfl (by rfl) (fun w0 hO hX K hK => ?_) ?_
      rotate_left
      exact AllS.nil
      rotate_right 2
      have hF := hO; (try simp only [Own, Item.Holds, apartI, CellsAt, Nat.reduceAdd, Nat.zero_add, List.mem_cons, List.not_mem_nil, or_false, forall_eq_or_imp, forall_eq, ne_eq, false_imp_iff, implies_true, and_true] at hF); ((have f1 := hO.blk_cell (b := q1) (j := 0) (v := .slice (some ⟨qs, 0, none⟩) N cs) (List.mem_cons_of_mem _ (List.mem_append_right _ (List.mem_cons_of_mem _ List.mem_cons_self))) rfl; have f2 := hO.blk_cell (b := q2) (j := 0) (v := .int .i64 ((a + 1 : Nat) : Int)) (List.mem_cons_of_mem _ (List.mem_append_right _ List.mem_cons_self)) rfl; rw [show ((a + 1 : Nat) : Int) = (a : Int) + 1 by omega] at f2; have f3 := hO.mem_cell (i := a) (List.mem_cons_of_mem _ (List.mem_append_right _ (List.mem_cons_of_mem _ (List.mem_cons_of_mem _ List.mem_cons_self)))) HVA.out; have f4 := hO.mem_free (List.mem_cons_of_mem _ (List.mem_append_right _ (List.mem_cons_of_mem _ (List.mem_cons_of_mem _ List.mem_cons_self)))) a))
      go_simp
      apply hK _ _ _ (fun _ => True)
      (repeat (first | (with_reducible exact hO) | (with_reducible apply Own.alloc) | (with_reducible apply Own.drew) | ((with_reducible apply Own.set_at); (focus (show _ ≤ _; omega)))))
      · first | exact trivial | exact hX | exact hX.below (below1 _) | exact RdIf.gone | exact hX.keep ((Below.refl _ _).setCell (by first | omega | (dsimp only; omega)) _)
      · exact (by first | exact XStab.true | exact XStab.rd | exact XStab.rdIf)
      · first | exact fun _ _ h => h.2 | exact fun _ _ h => h | exact fun h => absurd h (by decide)
      try simp only [upd, updI, List.map_cons, List.map_nil, eq_self, if_true, if_false, reduceIte, Nat.add_eq_left, Nat.left_eq_add, Nat.reduceEqDiff, List.set_cons_zero, List.set_cons_succ, hF]
      clear hK K hF hO
      try simp only [Act.put, List.setIfInBounds_toArray, List.set_cons_zero, List.set_cons_succ]
      refine Sim.one' (i := 9) (oi := { dst := some 19, op := Op.call { callee := Callee.value (Operand.func 107), args := #[Operand.tmp 17, Operand.tmp 18], argTypes := #[49, 117] }, type := 49, pos := "l13_figured_bass.go:107", after := #[{ on := 7, ground := Ground.data }, { on := 8, ground := Ground.data }], guard := none }) (by kernel_rfl) rfl (by rfl) (fun w0 hO hX K hK => ?_)
      (have hF := hO; (try simp only [Own, Item.Holds, apartI, CellsAt, Nat.reduceAdd, Nat.zero_add, List.mem_cons, List.not_mem_nil, or_false, forall_eq_or_imp, forall_eq, ne_eq, false_imp_iff, implies_true, and_true] at hF))
      go_simp
      refine (HDF.out _ hO).mono ?_
      rintro e wa ⟨v2, L', rfl, rfl, ho⟩
      obtain ⟨A2, k2, hv2⟩ := (SlAt.of_row ho.1.1).form
      subst hv2
      apply hK _ _ _ (fun _ => True)
      · exact ho
      · exact trivial
      · exact XStab.true
      · exact fun h => absurd h (by decide)
      clear ho hO hF
      clear hK K
      try simp only [Act.put, List.setIfInBounds_toArray, List.set_cons_zero, List.set_cons_succ]
      refine Sim.sP (i := 10) (d := some 20) (h := ?_)
      refine Sim.one' (i := 11) (oi := { dst := none, op := Op.store 49 (Operand.tmp 20) (Operand.tmp 19), type := 0, pos := "l13_figured_bass.go:107", after := #[{ on := 10, ground := Ground.data }, { on := 9, ground := Ground.data }, { on := 9, ground := Ground.chain }, { on := 0, ground := Ground.phase }, { on := 1, ground := Ground.phase }, { on := 2, ground := Ground.phase }, { on := 3, ground := Ground.phase }, { on := 4, ground := Ground.phase }, { on := 5, ground := Ground.phase }, { on := 6, ground := Ground.phase }, { on := 7, ground := Ground.phase }, { on := 8, ground := Ground.phase }, { on := 9, ground := Ground.phase }], guard := none }) (by kernel_rfl) rfl (by rfl) (fun w0 hO hX K hK => ?_)
      (have hF := hO; (try simp only [Own, Item.Holds, apartI, CellsAt, Nat.reduceAdd, Nat.zero_add, List.mem_cons, List.not_mem_nil, or_false, forall_eq_or_imp, forall_eq, ne_eq, false_imp_iff, implies_true, and_true] at hF); (have f1 := hO.blk_cell (b := q1) (j := 0) (v := .slice (some ⟨qs, 0, none⟩) N cs) (List.mem_cons_of_mem _ (List.mem_append_right _ (List.mem_cons_of_mem _ List.mem_cons_self))) rfl; have f2 := hO.blk_cell (b := q2) (j := 0) (v := .int .i64 ((a + 1 : Nat) : Int)) (List.mem_cons_of_mem _ (List.mem_append_right _ List.mem_cons_self)) rfl; rw [show ((a + 1 : Nat) : Int) = (a : Int) + 1 by omega] at f2; have f3 := hO.mem_cell (i := a) (List.mem_cons_of_mem _ (List.mem_append_right _ (List.mem_cons_of_mem _ (List.mem_cons_of_mem _ List.mem_cons_self)))) HVA.out; have f4 := hO.mem_free (List.mem_cons_of_mem _ (List.mem_append_right _ (List.mem_cons_of_mem _ (List.mem_cons_of_mem _ List.mem_cons_self)))) a))
      go_simp
      apply hK _ _ _ (fun _ => True)
      · exact (own_search hO).row_set a _
      · exact trivial
      · exact XStab.true
      · exact fun h => absurd h (by decide)
      clear hO hF
      clear hK K
      try simp only [Act.put, List.setIfInBounds_toArray, List.set_cons_zero, List.set_cons_succ]
      refine Sim.done (by kernel_rfl) (fun w1 hO hX => ?_) _
      (try simp only [World.size_alloc1, World.size_drew, Nat.reduceAdd] at hO); (try simp only [upd, updI, List.map_cons, List.map_nil, eq_self, if_true, if_false, reduceIte, Nat.add_eq_left, Nat.left_eq_add, Nat.reduceEqDiff, List.set_cons_zero, List.set_cons_succ] at hO)
      have hF := hO; (try simp only [Own, Item.Holds, apartI, CellsAt, Nat.reduceAdd, Nat.zero_add, List.mem_cons, List.not_mem_nil, or_false, forall_eq_or_imp, forall_eq, ne_eq, false_imp_iff, implies_true, and_true] at hF)
      rotate_left 1
      (have hF := hO; (try simp only [Own, Item.Holds, apartI, CellsAt, Nat.reduceAdd, Nat.zero_add, List.mem_cons, List.not_mem_nil, or_false, forall_eq_or_imp, forall_eq, ne_eq, false_imp_iff, implies_true, and_true] at hF))
      go_simp
      refine (HDF.out _ hO).mono ?_
      rintro e wa ⟨v2, L', rfl, rfl, ho⟩
      obtain ⟨A2, k2, hv2⟩ := (SlAt.of_row ho.1.1).form
      subst hv2
      apply hK _ _ _ (fun _ => True)
      · exact ho
      · exact trivial
      · exact XStab.true
      · exact fun h => absurd h (by decide)
      clear ho hO hF
      clear hK K
      try simp only [Act.put, List.setIfInBounds_toArray, List.set_cons_zero, List.set_cons_succ]
      refine Sim.sO (i := 0) (d := some 10) (v := ?_) (hy := ?_) (h := ?_)
      rotate_left
      · first | refine Or.inl ⟨by rfl, fun w hO => ?_⟩ | (refine Or.inr ⟨by rfl, ?_⟩; with_reducible rfl)
        first | done | (have hF := hO; (try simp only [Own, Item.Holds, apartI, CellsAt, Nat.reduceAdd, Nat.zero_add, List.mem_cons, List.not_mem_nil, or_false, forall_eq_or_imp, forall_eq, ne_eq, false_imp_iff, implies_true, and_true] at hF); ((have f1 := hO.blk_cell (b := q1) (j := 0) (v := .slice (some ⟨qs, 0, none⟩) N cs) (List.mem_cons_of_mem _ (List.mem_append_right _ (List.mem_cons_of_mem _ List.mem_cons_self))) rfl; have f2 := hO.blk_cell (b := q2) (j := 0) (v := .int .i64 ((a + 1 : Nat) : Int)) (List.mem_cons_of_mem _ (List.mem_append_right _ List.mem_cons_self)) rfl; rw [show ((a + 1 : Nat) : Int) = (a : Int) + 1 by omega] at f2; have f3 := hO.mem_cell (i := a) (List.mem_cons_of_mem _ (List.mem_append_right _ (List.mem_cons_of_mem _ (List.mem_cons_of_mem _ List.mem_cons_self)))) HVA.out; have f4 := hO.mem_free (List.mem_cons_of_mem _ (List.mem_append_right _ (List.mem_cons_of_mem _ (List.mem_cons_of_mem _ List.mem_cons_self)))) a)); refine Out.same ?_; go_simp; all_goals with_reducible rfl)
      refine Sim.sP (i := 10) (d := some 20) (h := ?_)
      refine Sim.one' (i := 11) (oi := { dst := none, op := Op.store 49 (Operand.tmp 20) (Operand.tmp 19), type := 0, pos := "l13_figured_bass.go:107", after := #[{ on := 10, ground := Ground.data }, { on := 9, ground := Ground.data }, { on := 9, ground := Ground.chain }, { on := 0, ground := Ground.phase }, { on := 1, ground := Ground.phase }, { on := 2, ground := Ground.phase }, { on := 3, ground := Ground.phase }, { on := 4, ground := Ground.phase }, { on := 5, ground := Ground.phase }, { on := 6, ground := Ground.phase }, { on := 7, ground := Ground.phase }, { on := 8, ground := Ground.phase }, { on := 9, ground := Ground.phase }], guard := none }) (by kernel_rfl) rfl (by rfl) (fun w0 hO hX K hK => ?_)
      (have hF := hO; (try simp only [Own, Item.Holds, apartI, CellsAt, Nat.reduceAdd, Nat.zero_add, List.mem_cons, List.not_mem_nil, or_false, forall_eq_or_imp, forall_eq, ne_eq, false_imp_iff, implies_true, and_true] at hF); (have f1 := hO.blk_cell (b := q1) (j := 0) (v := .slice (some ⟨qs, 0, none⟩) N cs) (List.mem_cons_of_mem _ (List.mem_append_right _ (List.mem_cons_of_mem _ List.mem_cons_self))) rfl; have f2 := hO.blk_cell (b := q2) (j := 0) (v := .int .i64 ((a + 1 : Nat) : Int)) (List.mem_cons_of_mem _ (List.mem_append_right _ List.mem_cons_self)) rfl; rw [show ((a + 1 : Nat) : Int) = (a : Int) + 1 by omega] at f2; have f3 := hO.mem_cell (i := a) (List.mem_cons_of_mem _ (List.mem_append_right _ (List.mem_cons_of_mem _ (List.mem_cons_of_mem _ List.mem_cons_self)))) HVA.out; have f4 := hO.mem_free (List.mem_cons_of_mem _ (List.mem_append_right _ (List.mem_cons_of_mem _ (List.mem_cons_of_mem _ List.mem_cons_self)))) a))
      go_simp
      apply hK _ _ _ (fun _ => True)
      · exact (own_search hO).row_set a _
      · exact trivial
      · exact XStab.true
      · exact fun h => absurd h (by decide)
      clear hO hF
      clear hK K
      try simp only [Act.put, List.setIfInBounds_toArray, List.set_cons_zero, List.set_cons_succ]
      refine Sim.done (by kernel_rfl) (fun w1 hO hX => ?_) _
      (try simp only [World.size_alloc1, World.size_drew, Nat.reduceAdd] at hO); (try simp only [upd, updI, List.map_cons, List.map_nil, eq_self, if_true, if_false, reduceIte, Nat.add_eq_left, Nat.left_eq_add, Nat.reduceEqDiff, List.set_cons_zero, List.set_cons_succ] at hO)
      have hF := hO; (try simp only [Own, Item.Holds, apartI, CellsAt, Nat.reduceAdd, Nat.zero_add, List.mem_cons, List.not_mem_nil, or_false, forall_eq_or_imp, forall_eq, ne_eq, false_imp_iff, implies_true, and_true] at hF)
      rotate_left 1
      (have hF := hO; (try simp only [Own, Item.Holds, apartI, CellsAt, Nat.reduceAdd, Nat.zero_add, List.mem_cons, List.not_mem_nil, or_false, forall_eq_or_imp, forall_eq, ne_eq, false_imp_iff, implies_true, and_true] at hF))
      go_simp
      refine (HDF.out _ hO).mono ?_
      rintro e wa ⟨v2, L', rfl, rfl, ho⟩
      obtain ⟨A2, k2, hv2⟩ := (SlAt.of_row ho.1.1).form
      subst hv2
      apply hK _ _ _ (fun _ => True)
      · exact ho
      · exact trivial
      · exact XStab.true
      · exact fun h => absurd h (by decide)
      clear ho hO hF
      clear hK K
      try simp only [Act.put, List.setIfInBounds_toArray, List.set_cons_zero, List.set_cons_succ]
      refine Sim.sO (i := 0) (d := some 10) (v := ?_) (hy := ?_) (h := ?_)
      rotate_left
      · first | refine Or.inl ⟨by rfl, fun w hO => ?_⟩ | (refine Or.inr ⟨by rfl, ?_⟩; with_reducible rfl)
        first | done | (have hF := hO; (try simp only [Own, Item.Holds, apartI, CellsAt, Nat.reduceAdd, Nat.zero_add, List.mem_cons, List.not_mem_nil, or_false, forall_eq_or_imp, forall_eq, ne_eq, false_imp_iff, implies_true, and_true] at hF); ((have f1 := hO.blk_cell (b := q1) (j := 0) (v := .slice (some ⟨qs, 0, none⟩) N cs) (List.mem_cons_of_mem _ (List.mem_append_right _ (List.mem_cons_of_mem _ List.mem_cons_self))) rfl; have f2 := hO.blk_cell (b := q2) (j := 0) (v := .int .i64 ((a + 1 : Nat) : Int)) (List.mem_cons_of_mem _ (List.mem_append_right _ List.mem_cons_self)) rfl; rw [show ((a + 1 : Nat) : Int) = (a : Int) + 1 by omega] at f2; have f3 := hO.mem_cell (i := a) (List.mem_cons_of_mem _ (List.mem_append_right _ (List.mem_cons_of_mem _ (List.mem_cons_of_mem _ List.mem_cons_self)))) HVA.out; have f4 := hO.mem_free (List.mem_cons_of_mem _ (List.mem_append_right _ (List.mem_cons_of_mem _ (List.mem_cons_of_mem _ List.mem_cons_self)))) a)); refine Out.same ?_; go_simp; all_goals with_reducible rfl)
      refine Sim.sO (i := 1) (d := some 11) (v := ?_) (hy := ?_) (h := ?_)
      rotate_left
      · first | refine Or.inl ⟨by rfl, fun w hO => ?_⟩ | (refine Or.inr ⟨by rfl, ?_⟩; with_reducible rfl)
        first | done | (have hF := hO; (try simp only [Own, Item.Holds, apartI, CellsAt, Nat.reduceAdd, Nat.zero_add, List.mem_cons, List.not_mem_nil, or_false, forall_eq_or_imp, forall_eq, ne_eq, false_imp_iff, implies_true, and_true] at hF); ((have f1 := hO.blk_cell (b := q1) (j := 0) (v := .slice (some ⟨qs, 0, none⟩) N cs) (List.mem_cons_of_mem _ (List.mem_append_right _ (List.mem_cons_of_mem _ List.mem_cons_self))) rfl; have f2 := hO.blk_cell (b := q2) (j := 0) (v := .int .i64 ((a + 1 : Nat) : Int)) (List.mem_cons_of_mem _ (List.mem_append_right _ List.mem_cons_self)) rfl; rw [show ((a + 1 : Nat) : Int) = (a : Int) + 1 by omega] at f2; have f3 := hO.mem_cell (i := a) (List.mem_cons_of_mem _ (List.mem_append_right _ (List.mem_cons_of_mem _ (List.mem_cons_of_mem _ List.mem_cons_self)))) HVA.out; have f4 := hO.mem_free (List.mem_cons_of_mem _ (List.mem_append_right _ (List.mem_cons_of_mem _ (List.mem_cons_of_mem _ List.mem_cons_self)))) a)); refine Out.same ?_; go_simp; all_goals with_reducible rfl)
      refine Sim.sP (i := 2) (d := some 12) (h := ?_)
      refine Sim.sP (i := 10) (d := some 20) (h := ?_)
      refine Sim.one' (i := 11) (oi := { dst := none, op := Op.store 49 (Operand.tmp 20) (Operand.tmp 19), type := 0, pos := "l13_figured_bass.go:107", after := #[{ on := 10, ground := Ground.data }, { on := 9, ground := Ground.data }, { on := 9, ground := Ground.chain }, { on := 0, ground := Ground.phase }, { on := 1, ground := Ground.phase }, { on := 2, ground := Ground.phase }, { on := 3, ground := Ground.phase }, { on := 4, ground := Ground.phase }, { on := 5, ground := Ground.phase }, { on := 6, ground := Ground.phase }, { on := 7, ground := Ground.phase }, { on := 8, ground := Ground.phase }, { on := 9, ground := Ground.phase }], guard := none }) (by kernel_rfl) rfl (by rfl) (fun w0 hO hX K hK => ?_)
      (have hF := hO; (try simp only [Own, Item.Holds, apartI, CellsAt, Nat.reduceAdd, Nat.zero_add, List.mem_cons, List.not_mem_nil, or_false, forall_eq_or_imp, forall_eq, ne_eq, false_imp_iff, implies_true, and_true] at hF); (have f1 := hO.blk_cell (b := q1) (j := 0) (v := .slice (some ⟨qs, 0, none⟩) N cs) (List.mem_cons_of_mem _ (List.mem_append_right _ (List.mem_cons_of_mem _ List.mem_cons_self))) rfl; have f2 := hO.blk_cell (b := q2) (j := 0) (v := .int .i64 ((a + 1 : Nat) : Int)) (List.mem_cons_of_mem _ (List.mem_append_right _ List.mem_cons_self)) rfl; rw [show ((a + 1 : Nat) : Int) = (a : Int) + 1 by omega] at f2; have f3 := hO.mem_cell (i := a) (List.mem_cons_of_mem _ (List.mem_append_right _ (List.mem_cons_of_mem _ (List.mem_cons_of_mem _ List.mem_cons_self)))) HVA.out; have f4 := hO.mem_free (List.mem_cons_of_mem _ (List.mem_append_right _ (List.mem_cons_of_mem _ (List.mem_cons_of_mem _ List.mem_cons_self)))) a))
      go_simp
      apply hK _ _ _ (fun _ => True)
      · exact (own_search hO).row_set a _
      · exact trivial
      · exact XStab.true
      · exact fun h => absurd h (by decide)
      clear hO hF
      clear hK K
      try simp only [Act.put, List.setIfInBounds_toArray, List.set_cons_zero, List.set_cons_succ]
      refine Sim.done (by kernel_rfl) (fun w1 hO hX => ?_) _
      (try simp only [World.size_alloc1, World.size_drew, Nat.reduceAdd] at hO); (try simp only [upd, updI, List.map_cons, List.map_nil, eq_self, if_true, if_false, reduceIte, Nat.add_eq_left, Nat.left_eq_add, Nat.reduceEqDiff, List.set_cons_zero, List.set_cons_succ] at hO)
      have hF := hO; (try simp only [Own, Item.Holds, apartI, CellsAt, Nat.reduceAdd, Nat.zero_add, List.mem_cons, List.not_mem_nil, or_false, forall_eq_or_imp, forall_eq, ne_eq, false_imp_iff, implies_true, and_true] at hF)
      rotate_left 1
      all_goals
        rw [HST.out] at hO
        have f2 := hO.blk_cell (b := q2) (j := 0) (v := .int .i64 ((a + 1 : Nat) : Int)) (List.mem_cons_of_mem _ (List.mem_cons_of_mem _ (List.mem_append_right _ List.mem_cons_self))) rfl
        rw [show ((a + 1 : Nat) : Int) = (a : Int) + 1 by omega] at f2
        go_wp2_with fail
        have hO3 := hO.alloc (t := 3) (vs := [.int .i64 (a : Int)])
        have hme := cellP_of (hO3.blk_cell (j := 0) List.mem_cons_self rfl)
        go_roundw
        case rel => exact ⟨a, _, _, by omega, rfl, HNX.out _, ls_back hO3⟩
        case measure => rw [HME.out, hme]; omega
end Go.Proofs.YtfdglkiehkilnaaDoor
