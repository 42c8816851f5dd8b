/- Chapter 14 in the model: the faults of a line; good lines. -/
import Derived.Test.YtfdglkiehkilnaaDoorWalks14S
import Derived.Test.YtfdglkiehkilnaaDoorWalks12W
import Derived.Test.YtfdglkiehkilnaaDoorRegionD
namespace Go.Proofs.YtfdglkiehkilnaaDoor
set_option linter.unusedSimpArgs false
set_option linter.unusedVariables false
set_option maxRecDepth 8000
open Go.RowKit

theorem lf_cv {f : Int} {c l : List Pt} (h : cvB f c = false) : lfC f c l = false := by unfold lfC; rw [h]; rfl
theorem lf_ln {f : Int} {c l : List Pt} (h : l.length ≠ c.length) : lfC f c l = false := by unfold lfC; rw [decide_eq_false h]; simp
theorem lf_pv {f : Int} {c l : List Pt} {x : Pt} (hx : x ∈ l) (h : pvP x = false) : lfC f c l = false := by
  have : l.all pvP = false := by
    rw [← Bool.not_eq_true, List.all_eq_true]
    intro h2
    rw [h2 x hx] at h
    cases h
  unfold lfC; rw [this]; simp
theorem lf_yes {f : Int} {c l : List Pt} (h : cvB f c = true) (h1 : l.length = c.length) (h2 : ∀ x ∈ l, pvP x = true) : lfC f c l = true := lfC_iff.2 ⟨h, h1, h2⟩
theorem lfZ_no {f : Int} {c l : List Pt} (h : lfC f c l = false) : lfZ f c l = [] := by unfold lfZ; rw [h]; rfl
theorem lfZ_yes {f : Int} {c l : List Pt} (h : lfC f c l = true) : lfZ f c l = lfF f c l l.length := by unfold lfZ; rw [if_pos h]
theorem lgB_no {f : Int} {c l : List Pt} (h : lfC f c l = false) : lgB f c l = false := by unfold lgB; rw [h]; rfl
theorem cv_pv {f : Int} {c : List Pt} (h : cvB f c = true) : ∀ x ∈ c, pvP x = true := fun x hx => (ikP_iff.1 ((cvB_iff.1 h).1 x hx)).2.1
/-- The faults of the first tone, of a later tone. -/
theorem lf_first {f : Int} {c l : List Pt} {x p : Pt} (hx : c[0]? = some x) (hp : l[0]? = some p) : lfF f c l (0 + 1) = wfL (lfF f c l 0) ((0 : Nat) : Int) (oneZ f x p ((0 : Nat) : Int) l.length) := by
  rw [lfF_up]
  unfold wfL lfT lfA lfB
  rw [List.getD_eq_getElem?_getD, List.getD_eq_getElem?_getD, hx, hp]
  simp
theorem lf_next {f : Int} {c l : List Pt} {k : Nat} {x y p q : Pt} (hx : c[k]? = some x) (hp : l[k]? = some p) (hy : c[k + 1]? = some y) (hq : l[k + 1]? = some q) :
    lfF f c l (k + 1 + 1) = wfL (wfL (lfF f c l (k + 1)) ((k : Int) + 1) (oneZ f y q ((k : Int) + 1) l.length)) ((k : Int) + 1) (twoZ x p y q) := by
  rw [lfF_up]
  unfold wfL lfT lfA lfB
  rw [Nat.add_sub_cancel, List.getD_eq_getElem?_getD, List.getD_eq_getElem?_getD, List.getD_eq_getElem?_getD, List.getD_eq_getElem?_getD, hx, hp, hy, hq, if_neg (show ¬ k + 1 = 0 by omega)]
  simp only [Option.getD_some, List.append_assoc]
  rfl
theorem wf_zero {us : List (Int × Int)} {k c : Int} (h : c = 0) : wfL us k c = us := by unfold wfL; rw [if_pos h, List.append_nil]
theorem wf_more {us : List (Int × Int)} {k c : Int} (h : c ≠ 0) : tnC us ++ [.int .i64 k, .int .i64 c] = tnC (wfL us k c) ∧ us.length + 1 = (wfL us k c).length := by
  unfold wfL
  rw [if_neg h, tnC_snoc, List.length_append]; exact ⟨rfl, rfl⟩
theorem oneS_is {f : Int} {c p : Pt} {k n z : Int} (hc : pvP c = true) (hp : pvP p = true) (hk : 0 ≤ k ∧ k ≤ 1048576) (hn : 0 ≤ n ∧ n ≤ 1048576) (h : oneZ f c p k n = z) (W : World) :
    Calls Tryd.prog 53 #[.int .i64 f, .agg #[.int .i64 c.s, .int .i64 c.a, .int .i64 c.o], .agg #[.int .i64 p.s, .int .i64 p.a, .int .i64 p.o], .int .i64 k, .int .i64 n] W fun e w' => e = .returned (.int .i64 z) ∧ Below W.heap.size W w' := by
  subst h; exact oneS_any f c p k n W hc hp hk hn
theorem twoS_is {c p d q : Pt} {z : Int} (hc : pvP c = true) (hp : pvP p = true) (hd : pvP d = true) (hq : pvP q = true) (h : twoZ c p d q = z) (W : World) :
    Calls Tryd.prog 54 #[.agg #[.int .i64 c.s, .int .i64 c.a, .int .i64 c.o], .agg #[.int .i64 p.s, .int .i64 p.a, .int .i64 p.o], .agg #[.int .i64 d.s, .int .i64 d.a, .int .i64 d.o], .agg #[.int .i64 q.s, .int .i64 q.a, .int .i64 q.o]] W fun e w' => e = .returned (.int .i64 z) ∧ Below W.heap.size W w' := by
  subst h; exact twoS_any c p d q W hc hp hd hq

set_option maxRecDepth 20000 in
set_option maxHeartbeats 8000000 in
theorem lfS_any (f : Int) (va vb : Value) (c l : List Pt) (w : World) (hc : SlAt w va c.length 3 (pcC c)) (hl : SlAt w vb l.length 3 (pcC l)) (hn : c.length ≤ 1048576) (hm : l.length ≤ 1048576) :
    Calls Tryd.prog 18 #[.int .i64 f, va, vb] w (RowOut 36 2 (lfZ f c l).length (tnC (lfZ f c l)) w) := by
  have hO := Own.start w
  have hF := True.intro
  obtain ⟨i0, hi0, hz0, hz1, hz2⟩ := info_parts infoFa
  obtain ⟨A, ca, rfl, nb, hA⟩ := hc.open
  obtain ⟨A', cb, rfl, mb, hA'⟩ := hl.open
  obtain ⟨n, hnl⟩ : ∃ n, c.length = n := ⟨_, rfl⟩
  obtain ⟨m, hml⟩ : ∃ m, l.length = m := ⟨_, rfl⟩
  have HN := hid (And.intro hnl hml)
  rw [hnl] at hn nb hA hc ⊢
  rw [hml] at hm mb hA' hl ⊢
  have HC := hid hc
  have HL := hid hl
  obtain ⟨b, hb⟩ : ∃ b, cvB f c = b := ⟨_, rfl⟩
  have HCV := hid (cvS_is hnl hc hn hb)
  have HB := hid hb
  clear hc hl hnl hml hb
  cases b
  · have HE := hid (lfZ_no (l := l) (lf_cv HB.out))
    go_enter Tryd.func18, Tryd.ntmps18
    go_wp2_with fail
    replace hO := hO.allocRow (e := 36) (cur := #[]) (k := 0) (cap := 0) 2 (by omega) (by unfold maxLen; omega) rfl
    go_wp2_with (go_at_call 14; apply own_at hO; (repeat (first | (with_reducible exact hO) | (with_reducible apply Own.alloc) | (with_reducible apply Own.drew) | ((with_reducible apply Own.set_at); (focus (show _ ≤ _; omega))))); have hG := hF; clear hF; clear hO; intro hO; refine own_call hO (fun hB => HCV.out _ hB) ?_; clear hO; intro w1 hO; (try simp only [World.size_alloc1, World.size_drew, Nat.reduceAdd] at hO); (try simp only [upd, updI, List.map_cons, List.map_nil, eq_self, if_true, if_false, reduceIte, Nat.add_eq_left, Nat.left_eq_add, Nat.reduceEqDiff, List.set_cons_zero, List.set_cons_succ, hG] at hO); clear hG; have hF := hO; (try simp only [Own, Item.Holds, apartI, CellsAt, Nat.reduceAdd, Nat.zero_add, List.mem_cons, List.not_mem_nil, or_false, forall_eq_or_imp, forall_eq, ne_eq, false_imp_iff, implies_true, and_true] at hF))
    go_ret
    rw [HE.out]
    exact RowOut.mk hO
  · by_cases hmn : m = n
    · subst hmn
      have hn10 := (cvB_iff.1 HB.out).2.2.1
      rw [HN.out.1] at hn10
      clear HCV
      have HCV := hid (cvS_is HN.out.1 HC.out hn HB.out)
      go_enter Tryd.func18, Tryd.ntmps18
      go_wp2_with fail
      replace hO := hO.allocRow (e := 36) (cur := #[]) (k := 0) (cap := 0) 2 (by omega) (by unfold maxLen; omega) rfl
      go_wp2_with (go_at_call 14; apply own_at hO; (repeat (first | (with_reducible exact hO) | (with_reducible apply Own.alloc) | (with_reducible apply Own.drew) | ((with_reducible apply Own.set_at); (focus (show _ ≤ _; omega))))); have hG := hF; clear hF; clear hO; intro hO; refine own_call hO (fun hB => HCV.out _ hB) ?_; clear hO; intro w1 hO; (try simp only [World.size_alloc1, World.size_drew, Nat.reduceAdd] at hO); (try simp only [upd, updI, List.map_cons, List.map_nil, eq_self, if_true, if_false, reduceIte, Nat.add_eq_left, Nat.left_eq_add, Nat.reduceEqDiff, List.set_cons_zero, List.set_cons_succ, hG] at hO); clear hG; have hF := hO; (try simp only [Own, Item.Holds, apartI, CellsAt, Nat.reduceAdd, Nat.zero_add, List.mem_cons, List.not_mem_nil, or_false, forall_eq_or_imp, forall_eq, ne_eq, false_imp_iff, implies_true, and_true] at hF))
      go_loopw [8] (fun t wr => ∃ j : Nat, j ≤ m ∧ t = .int .i64 j ∧ Hid (∀ (i : Nat) (x : Pt), i < j → l[i]? = some x → pvP x = true) ∧ Own w.heap.size (Below w.heap.size w) wr [.row 36 2 (.slice (some ⟨w.heap.size, 0, none⟩) 0 0) 0 []]) (fun t _ => m - (intOf t).toNat)
      case atStart => exact ⟨0, by omega, rfl, fun i x h => by omega, hO⟩
      case round =>
        clear hO hF
        obtain ⟨j, hj, rfl, hv, hO⟩ := hrel
        have hF := hO; (try simp only [Own, Item.Holds, apartI, CellsAt, Nat.reduceAdd, Nat.zero_add, List.mem_cons, List.not_mem_nil, or_false, forall_eq_or_imp, forall_eq, ne_eq, false_imp_iff, implies_true, and_true] at hF)
        by_cases he : j = m
        · subst he
          have HPV := hid (all14 HN.out.2 hv.out)
          have HE := hid ((lfZ_yes (lf_yes HB.out (HN.out.2.trans HN.out.1.symm) HPV.out)).trans (by rw [HN.out.2]))
          clear hv
          go_wp2_with fail
          go_loopw [7, 9] (fun u t wr => ∃ k : Nat, k ≤ j ∧ t = .int .i64 k ∧ Own w.heap.size (Below w.heap.size w) wr [.row 36 2 u (lfF f c l k).length (tnC (lfF f c l k))]) (fun _ t _ => j - (intOf t).toNat)
          case atStart => exact ⟨0, by omega, rfl, hO⟩
          case round =>
            clear hO hF
            obtain ⟨k, hk, rfl, hO⟩ := hrel
            have hF := hO; (try simp only [Own, Item.Holds, apartI, CellsAt, Nat.reduceAdd, Nat.zero_add, List.mem_cons, List.not_mem_nil, or_false, forall_eq_or_imp, forall_eq, ne_eq, false_imp_iff, implies_true, and_true] at hF)
            by_cases he : k = j
            · subst he
              go_wp2_with fail
              go_ret
              rw [HE.out]
              exact RowOut.mk hO
            · have hkl : k < j := by omega
              have hkl2 : (k : Int) < (j : Int) := by omega
              have hk0 : (0 : Int) ≤ (k : Int) := by omega
              obtain ⟨b1, o1, rfl, _, _, hb1⟩ := hA (by omega)
              obtain ⟨b2, o2, rfl, _, _, hb2⟩ := hA' (by omega)
              obtain ⟨y, hy⟩ : ∃ x, c[k]? = some x := ⟨_, List.getElem?_eq_getElem (by have := HN.out; omega)⟩
              obtain ⟨q, hq⟩ : ∃ x, l[k]? = some x := ⟨_, List.getElem?_eq_getElem (by have := HN.out; omega)⟩
              have HY := hid (And.intro hy hq)
              have py := cv_pv HB.out y (List.mem_of_getElem? hy)
              have pq := HPV.out q (List.mem_of_getElem? hq)
              obtain ⟨z, hz⟩ : ∃ z, oneZ f y q (k : Int) (j : Int) = z := ⟨_, rfl⟩
              have HONE := hid (fun W => oneS_is py pq (k := k) (n := j) (by omega) (by omega) hz W)
              have hql := lfF_len f c l k
              rcases (show k = 0 ∨ ∃ p, k = p + 1 by cases k with | zero => exact Or.inl rfl | succ p => exact Or.inr ⟨p, rfl⟩) with h0 | ⟨p, rfl⟩
              · have HU := hid (show lfF f c l (k + 1) = wfL (lfF f c l k) (k : Int) z by subst h0; rw [← hz, ← HN.out.2]; exact lf_first hy hq)
                have k0 : decide ((0 : Int) < (k : Int)) = false := decide_eq_false (by omega)
                have k1 : ¬ (0 : Int) < (k : Int) := by omega
                have k2 : ¬ 0 < k := by omega
                obtain ⟨us, hus⟩ : ∃ u, lfF f c l k = u := ⟨_, rfl⟩
                rw [hus] at HU hO hql
                obtain ⟨r, hr⟩ : ∃ r, us.length = r := ⟨_, rfl⟩
                have HR := hid hr
                rw [hr] at hO hql
                clear he hy hq py pq hz h0 hus hr
                go_wp2_with fail
                apply own_code hO
                (repeat (first | (with_reducible exact hO) | (with_reducible apply Own.alloc) | (with_reducible apply Own.drew) | ((with_reducible apply Own.set_at); (focus (show _ ≤ _; omega)))))
                have hG := hF; clear hF; clear hO; intro hO
                (try simp only [World.size_alloc1, World.size_drew, Nat.reduceAdd] at hO); (try simp only [upd, updI, List.map_cons, List.map_nil, eq_self, if_true, if_false, reduceIte, Nat.add_eq_left, Nat.left_eq_add, Nat.reduceEqDiff, List.set_cons_zero, List.set_cons_succ, hG] at hO); clear hG
                refine region_own (X := fun _ => True) [] (by kernel_rfl) (hO) (trivial) (by first | exact XStab.true | exact XStab.rd | exact XStab.rdIf) ?_
                clear hO
                refine Sim.sP (i := 0) (d := some 44) (h := ?_)
                refine Sim.sP (i := 1) (d := some 45) (h := ?_)
                refine Sim.sP (i := 2) (d := some 46) (h := ?_)
                refine Sim.sP (i := 3) (d := some 47) (h := ?_)
                refine Sim.sO (i := 4) (d := some 48) (v := ?_) (hy := ?_) (h := ?_)
                rotate_left
                · first | refine Or.inl ⟨by rfl, fun w hO => ?_⟩ | (refine Or.inr ⟨by rfl, ?_⟩; with_reducible rfl)
                  first | done | (have hF := hO; (try simp only [Own, Item.Holds, apartI, CellsAt, Nat.reduceAdd, Nat.zero_add, List.mem_cons, List.not_mem_nil, or_false, forall_eq_or_imp, forall_eq, ne_eq, false_imp_iff, implies_true, and_true] at hF); ((have ⟨x0, x1, x2⟩ := ptAt (HC.out.below hO.base) HY.out.1; have ⟨y0, y1, y2⟩ := ptAt (HL.out.below hO.base) HY.out.2)); refine Out.same ?_; go_simp; all_goals with_reducible rfl)
                refine Sim.sP (i := 5) (d := some 49) (h := ?_)
                refine Sim.sP (i := 6) (d := some 50) (h := ?_)
                refine Sim.sP (i := 7) (d := some 51) (h := ?_)
                refine Sim.sO (i := 8) (d := some 52) (v := ?_) (hy := ?_) (h := ?_)
                rotate_left
                · first | refine Or.inl ⟨by rfl, fun w hO => ?_⟩ | (refine Or.inr ⟨by rfl, ?_⟩; with_reducible rfl)
                  first | done | (have hF := hO; (try simp only [Own, Item.Holds, apartI, CellsAt, Nat.reduceAdd, Nat.zero_add, List.mem_cons, List.not_mem_nil, or_false, forall_eq_or_imp, forall_eq, ne_eq, false_imp_iff, implies_true, and_true] at hF); ((have ⟨x0, x1, x2⟩ := ptAt (HC.out.below hO.base) HY.out.1; have ⟨y0, y1, y2⟩ := ptAt (HL.out.below hO.base) HY.out.2)); refine Out.same ?_; go_simp; all_goals with_reducible rfl)
                refine Sim.sP (i := 9) (d := some 53) (h := ?_)
                refine Sim.sP (i := 10) (d := some 54) (h := ?_)
                refine Sim.sO (i := 11) (d := some 55) (v := ?_) (hy := ?_) (h := ?_)
                rotate_left
                · first | refine Or.inl ⟨by rfl, fun w hO => ?_⟩ | (refine Or.inr ⟨by rfl, ?_⟩; with_reducible rfl)
                  first | done | (have hF := hO; (try simp only [Own, Item.Holds, apartI, CellsAt, Nat.reduceAdd, Nat.zero_add, List.mem_cons, List.not_mem_nil, or_false, forall_eq_or_imp, forall_eq, ne_eq, false_imp_iff, implies_true, and_true] at hF); ((have ⟨x0, x1, x2⟩ := ptAt (HC.out.below hO.base) HY.out.1; have ⟨y0, y1, y2⟩ := ptAt (HL.out.below hO.base) HY.out.2)); refine Out.same ?_; go_simp; all_goals with_reducible rfl)
                refine Sim.sO (i := 12) (d := some 56) (v := ?_) (hy := ?_) (h := ?_)
                rotate_left
                · first | refine Or.inl ⟨by rfl, fun w hO => ?_⟩ | (refine Or.inr ⟨by rfl, ?_⟩; with_reducible rfl)
                  first | done | (refine Out.call (f := 53) (args := ?_) ?_ ?_; rotate_left; (focus (go_simp; all_goals with_reducible rfl)); exact HONE.out _)
                refine Sim.sP (i := 13) (d := some 10) (h := ?_)
                refine Sim.done (by kernel_rfl) (fun w1 hO hX => ?_) _
                (try simp only [World.size_alloc1, World.size_drew, Nat.reduceAdd] at hO); (try simp only [upd, updI, List.map_cons, List.map_nil, eq_self, if_true, if_false, reduceIte, Nat.add_eq_left, Nat.left_eq_add, Nat.reduceEqDiff, List.set_cons_zero, List.set_cons_succ] at hO)
                have hF := hO; (try simp only [Own, Item.Holds, apartI, CellsAt, Nat.reduceAdd, Nat.zero_add, List.mem_cons, List.not_mem_nil, or_false, forall_eq_or_imp, forall_eq, ne_eq, false_imp_iff, implies_true, and_true] at hF)
                by_cases hz : z = 0
                · have HU2 := hid (HU.out.trans (wf_zero hz))
                  subst hz
                  clear HU
                  go_wp2_with fail
                  go_roundw
                  case rel => exact ⟨k + 1, by omega, by go_num, by rw [HU2.out, HR.out]; exact hO⟩
                  case measure => simp [intOf]; omega
                · have HU2 := hid (wf_more (us := us) (k := (k : Int)) hz)
                  have z1 : (z == 0) = false := by simp [hz]
                  have z2 : (z != 0) = true := by simp [hz]
                  go_wp2_with (at_builtin; apply own_list hO; (repeat (first | (with_reducible exact hO) | (with_reducible apply Own.alloc) | (with_reducible apply Own.drew) | ((with_reducible apply Own.set_at); (focus (show _ ≤ _; omega))))); have hG := hF; clear hF; clear hO; intro hO; (try simp only [World.size_alloc1, World.size_drew, Nat.reduceAdd] at hO); (try simp only [upd, updI, List.map_cons, List.map_nil, eq_self, if_true, if_false, reduceIte, Nat.add_eq_left, Nat.left_eq_add, Nat.reduceEqDiff, List.set_cons_zero, List.set_cons_succ, hG] at hO); clear hG; (try simp only [World.size_setCell] at hO); have hF := hO; (try simp only [Own, Item.Holds, apartI, CellsAt, Nat.reduceAdd, Nat.zero_add, List.mem_cons, List.not_mem_nil, or_false, forall_eq_or_imp, forall_eq, ne_eq, false_imp_iff, implies_true, and_true] at hF); refine wpList_append_item rfl _ _ 33 rfl 36 i0 (.agg #[.int .i64 0, .int .i64 0]) 2 16 Tryd.underlying33 hi0 hz0 hz1 hz2 rfl (by decide) rfl rfl hO rfl one2t (by unfold maxLen; omega) (by omega) ?_; clear hO hF; intro v' w2 hO _; have hF := True.intro)
                  go_roundw
                  case rel => exact ⟨k + 1, by omega, by go_num, by rw [HU.out, ← HU2.out.1, ← HU2.out.2, HR.out]; exact hO⟩
                  case measure => simp [intOf]; omega
              · obtain ⟨x, hx⟩ : ∃ x, c[p]? = some x := ⟨_, List.getElem?_eq_getElem (by have := HN.out; omega)⟩
                obtain ⟨o, ho⟩ : ∃ x, l[p]? = some x := ⟨_, List.getElem?_eq_getElem (by have := HN.out; omega)⟩
                have HX := hid (And.intro hx ho)
                have px := cv_pv HB.out x (List.mem_of_getElem? hx)
                have po := HPV.out o (List.mem_of_getElem? ho)
                obtain ⟨t, ht⟩ : ∃ z, twoZ x o y q = z := ⟨_, rfl⟩
                have HTWO := hid (fun W => twoS_is px po py pq ht W)
                have hc1 : (((p + 1 : Nat)) : Int) = (p : Int) + 1 := by omega
                rw [hc1] at hz
                have HU := hid (show lfF f c l (p + 1 + 1) = wfL (wfL (lfF f c l (p + 1)) ((p : Int) + 1) z) ((p : Int) + 1) t by rw [← hz, ← ht, ← HN.out.2]; exact lf_next hx ho hy hq)
                have p0 : (0 : Int) ≤ (p : Int) := by omega
                have p1 : (0 : Int) < (p : Int) + 1 := by omega
                have p5 : decide ((0 : Int) < (p : Int) + 1) = true := decide_eq_true p1
                have p2 : (p : Int) < (j : Int) := by omega
                have p3 : (p : Int) + 1 < (j : Int) := by omega
                have p4 : (0 : Int) ≤ (p : Int) + 1 := by omega
                have wi : IntKind.i64.wrap ((p : Int) + 1 - 1) = (p : Int) := by rw [show (p : Int) + 1 - 1 = (p : Int) by omega]; exact IntWalk.i64_in _ (by omega)
                have wi2 : IntKind.i64.wrap (p : Int) = (p : Int) := IntWalk.i64_in _ (by omega)
                have wj : IntKind.i64.wrap ((p : Int) + 1 + 1) = (p : Int) + 1 + 1 := IntWalk.i64_in _ (by omega)
                obtain ⟨us, hus⟩ : ∃ u, lfF f c l (p + 1) = u := ⟨_, rfl⟩
                rw [hus] at HU hO hql
                obtain ⟨r, hr⟩ : ∃ r, us.length = r := ⟨_, rfl⟩
                have HR := hid hr
                rw [hr] at hO hql
                rw [hc1] at HONE
                clear he hy hq py pq hx ho px po hz ht hus hr hc1
                go_wp2_with fail
                apply own_code hO
                (repeat (first | (with_reducible exact hO) | (with_reducible apply Own.alloc) | (with_reducible apply Own.drew) | ((with_reducible apply Own.set_at); (focus (show _ ≤ _; omega)))))
                have hG := hF; clear hF; clear hO; intro hO
                (try simp only [World.size_alloc1, World.size_drew, Nat.reduceAdd] at hO); (try simp only [upd, updI, List.map_cons, List.map_nil, eq_self, if_true, if_false, reduceIte, Nat.add_eq_left, Nat.left_eq_add, Nat.reduceEqDiff, List.set_cons_zero, List.set_cons_succ, hG] at hO); clear hG
                refine region_own (X := fun _ => True) [] (by kernel_rfl) (hO) (trivial) (by first | exact XStab.true | exact XStab.rd | exact XStab.rdIf) ?_
                clear hO
                refine Sim.sP (i := 0) (d := some 44) (h := ?_)
                refine Sim.sP (i := 1) (d := some 45) (h := ?_)
                refine Sim.sP (i := 2) (d := some 46) (h := ?_)
                refine Sim.sP (i := 3) (d := some 47) (h := ?_)
                refine Sim.sO (i := 4) (d := some 48) (v := ?_) (hy := ?_) (h := ?_)
                rotate_left
                · first | refine Or.inl ⟨by rfl, fun w hO => ?_⟩ | (refine Or.inr ⟨by rfl, ?_⟩; with_reducible rfl)
                  first | done | (have hF := hO; (try simp only [Own, Item.Holds, apartI, CellsAt, Nat.reduceAdd, Nat.zero_add, List.mem_cons, List.not_mem_nil, or_false, forall_eq_or_imp, forall_eq, ne_eq, false_imp_iff, implies_true, and_true] at hF); ((have ⟨x0, x1, x2⟩ := ptAt (HC.out.below hO.base) HY.out.1; have ⟨y0, y1, y2⟩ := ptAt (HL.out.below hO.base) HY.out.2)); refine Out.same ?_; go_simp; all_goals with_reducible rfl)
                refine Sim.sP (i := 5) (d := some 49) (h := ?_)
                refine Sim.sP (i := 6) (d := some 50) (h := ?_)
                refine Sim.sP (i := 7) (d := some 51) (h := ?_)
                refine Sim.sO (i := 8) (d := some 52) (v := ?_) (hy := ?_) (h := ?_)
                rotate_left
                · first | refine Or.inl ⟨by rfl, fun w hO => ?_⟩ | (refine Or.inr ⟨by rfl, ?_⟩; with_reducible rfl)
                  first | done | (have hF := hO; (try simp only [Own, Item.Holds, apartI, CellsAt, Nat.reduceAdd, Nat.zero_add, List.mem_cons, List.not_mem_nil, or_false, forall_eq_or_imp, forall_eq, ne_eq, false_imp_iff, implies_true, and_true] at hF); ((have ⟨x0, x1, x2⟩ := ptAt (HC.out.below hO.base) HY.out.1; have ⟨y0, y1, y2⟩ := ptAt (HL.out.below hO.base) HY.out.2)); refine Out.same ?_; go_simp; all_goals with_reducible rfl)
                refine Sim.sP (i := 9) (d := some 53) (h := ?_)
                refine Sim.sP (i := 10) (d := some 54) (h := ?_)
                refine Sim.sO (i := 11) (d := some 55) (v := ?_) (hy := ?_) (h := ?_)
                rotate_left
                · first | refine Or.inl ⟨by rfl, fun w hO => ?_⟩ | (refine Or.inr ⟨by rfl, ?_⟩; with_reducible rfl)
                  first | done | (have hF := hO; (try simp only [Own, Item.Holds, apartI, CellsAt, Nat.reduceAdd, Nat.zero_add, List.mem_cons, List.not_mem_nil, or_false, forall_eq_or_imp, forall_eq, ne_eq, false_imp_iff, implies_true, and_true] at hF); ((have ⟨x0, x1, x2⟩ := ptAt (HC.out.below hO.base) HY.out.1; have ⟨y0, y1, y2⟩ := ptAt (HL.out.below hO.base) HY.out.2)); refine Out.same ?_; go_simp; all_goals with_reducible rfl)
                refine Sim.sO (i := 12) (d := some 56) (v := ?_) (hy := ?_) (h := ?_)
                rotate_left
                · first | refine Or.inl ⟨by rfl, fun w hO => ?_⟩ | (refine Or.inr ⟨by rfl, ?_⟩; with_reducible rfl)
                  first | done | (refine Out.call (f := 53) (args := ?_) ?_ ?_; rotate_left; (focus (go_simp; all_goals with_reducible rfl)); exact HONE.out _)
                refine Sim.sP (i := 13) (d := some 10) (h := ?_)
                refine Sim.done (by kernel_rfl) (fun w1 hO hX => ?_) _
                (try simp only [World.size_alloc1, World.size_drew, Nat.reduceAdd] at hO); (try simp only [upd, updI, List.map_cons, List.map_nil, eq_self, if_true, if_false, reduceIte, Nat.add_eq_left, Nat.left_eq_add, Nat.reduceEqDiff, List.set_cons_zero, List.set_cons_succ] at hO)
                have hF := hO; (try simp only [Own, Item.Holds, apartI, CellsAt, Nat.reduceAdd, Nat.zero_add, List.mem_cons, List.not_mem_nil, or_false, forall_eq_or_imp, forall_eq, ne_eq, false_imp_iff, implies_true, and_true] at hF)
                by_cases hz : z = 0
                · have HU1 := hid (wf_zero (us := us) (k := (p : Int) + 1) hz)
                  subst hz
                  rw [HU1.out] at HU
                  go_wp2_with fail
                  apply own_code hO
                  (repeat (first | (with_reducible exact hO) | (with_reducible apply Own.alloc) | (with_reducible apply Own.drew) | ((with_reducible apply Own.set_at); (focus (show _ ≤ _; omega)))))
                  have hG := hF; clear hF; clear hO; intro hO
                  (try simp only [World.size_alloc1, World.size_drew, Nat.reduceAdd] at hO); (try simp only [upd, updI, List.map_cons, List.map_nil, eq_self, if_true, if_false, reduceIte, Nat.add_eq_left, Nat.left_eq_add, Nat.reduceEqDiff, List.set_cons_zero, List.set_cons_succ, hG] at hO); clear hG
                  refine region_own (X := fun _ => True) [] (by kernel_rfl) (hO) (trivial) (by first | exact XStab.true | exact XStab.rd | exact XStab.rdIf) ?_
                  clear hO
                  refine Sim.sP (i := 0) (d := some 67) (h := ?_)
                  refine Sim.sP (i := 1) (d := some 68) (h := ?_)
                  refine Sim.sP (i := 2) (d := some 69) (h := ?_)
                  refine Sim.sP (i := 3) (d := some 70) (h := ?_)
                  refine Sim.sO (i := 4) (d := some 71) (v := ?_) (hy := ?_) (h := ?_)
                  rotate_left
                  · first | refine Or.inl ⟨by rfl, fun w hO => ?_⟩ | (refine Or.inr ⟨by rfl, ?_⟩; with_reducible rfl)
                    first | done | (have hF := hO; (try simp only [Own, Item.Holds, apartI, CellsAt, Nat.reduceAdd, Nat.zero_add, List.mem_cons, List.not_mem_nil, or_false, forall_eq_or_imp, forall_eq, ne_eq, false_imp_iff, implies_true, and_true] at hF); ((have ⟨x0, x1, x2⟩ := ptAt (HC.out.below hO.base) HX.out.1; have ⟨y0, y1, y2⟩ := ptAt (HL.out.below hO.base) HX.out.2; have ⟨x3, x4, x5⟩ := ptAt (HC.out.below hO.base) HY.out.1; have ⟨y3, y4, y5⟩ := ptAt (HL.out.below hO.base) HY.out.2)); refine Out.same ?_; go_simp; all_goals with_reducible rfl)
                  refine Sim.sP (i := 5) (d := some 72) (h := ?_)
                  refine Sim.sP (i := 6) (d := some 73) (h := ?_)
                  refine Sim.sP (i := 7) (d := some 74) (h := ?_)
                  refine Sim.sP (i := 8) (d := some 75) (h := ?_)
                  refine Sim.sO (i := 9) (d := some 76) (v := ?_) (hy := ?_) (h := ?_)
                  rotate_left
                  · first | refine Or.inl ⟨by rfl, fun w hO => ?_⟩ | (refine Or.inr ⟨by rfl, ?_⟩; with_reducible rfl)
                    first | done | (have hF := hO; (try simp only [Own, Item.Holds, apartI, CellsAt, Nat.reduceAdd, Nat.zero_add, List.mem_cons, List.not_mem_nil, or_false, forall_eq_or_imp, forall_eq, ne_eq, false_imp_iff, implies_true, and_true] at hF); ((have ⟨x0, x1, x2⟩ := ptAt (HC.out.below hO.base) HX.out.1; have ⟨y0, y1, y2⟩ := ptAt (HL.out.below hO.base) HX.out.2; have ⟨x3, x4, x5⟩ := ptAt (HC.out.below hO.base) HY.out.1; have ⟨y3, y4, y5⟩ := ptAt (HL.out.below hO.base) HY.out.2)); refine Out.same ?_; go_simp; all_goals with_reducible rfl)
                  refine Sim.sP (i := 10) (d := some 77) (h := ?_)
                  refine Sim.sP (i := 11) (d := some 78) (h := ?_)
                  refine Sim.sP (i := 12) (d := some 79) (h := ?_)
                  refine Sim.sO (i := 13) (d := some 80) (v := ?_) (hy := ?_) (h := ?_)
                  rotate_left
                  · first | refine Or.inl ⟨by rfl, fun w hO => ?_⟩ | (refine Or.inr ⟨by rfl, ?_⟩; with_reducible rfl)
                    first | done | (have hF := hO; (try simp only [Own, Item.Holds, apartI, CellsAt, Nat.reduceAdd, Nat.zero_add, List.mem_cons, List.not_mem_nil, or_false, forall_eq_or_imp, forall_eq, ne_eq, false_imp_iff, implies_true, and_true] at hF); ((have ⟨x0, x1, x2⟩ := ptAt (HC.out.below hO.base) HX.out.1; have ⟨y0, y1, y2⟩ := ptAt (HL.out.below hO.base) HX.out.2; have ⟨x3, x4, x5⟩ := ptAt (HC.out.below hO.base) HY.out.1; have ⟨y3, y4, y5⟩ := ptAt (HL.out.below hO.base) HY.out.2)); refine Out.same ?_; go_simp; all_goals with_reducible rfl)
                  refine Sim.sP (i := 14) (d := some 81) (h := ?_)
                  refine Sim.sP (i := 15) (d := some 82) (h := ?_)
                  refine Sim.sP (i := 16) (d := some 83) (h := ?_)
                  refine Sim.sO (i := 17) (d := some 84) (v := ?_) (hy := ?_) (h := ?_)
                  rotate_left
                  · first | refine Or.inl ⟨by rfl, fun w hO => ?_⟩ | (refine Or.inr ⟨by rfl, ?_⟩; with_reducible rfl)
                    first | done | (have hF := hO; (try simp only [Own, Item.Holds, apartI, CellsAt, Nat.reduceAdd, Nat.zero_add, List.mem_cons, List.not_mem_nil, or_false, forall_eq_or_imp, forall_eq, ne_eq, false_imp_iff, implies_true, and_true] at hF); ((have ⟨x0, x1, x2⟩ := ptAt (HC.out.below hO.base) HX.out.1; have ⟨y0, y1, y2⟩ := ptAt (HL.out.below hO.base) HX.out.2; have ⟨x3, x4, x5⟩ := ptAt (HC.out.below hO.base) HY.out.1; have ⟨y3, y4, y5⟩ := ptAt (HL.out.below hO.base) HY.out.2)); refine Out.same ?_; go_simp; all_goals with_reducible rfl)
                  refine Sim.sO (i := 18) (d := some 85) (v := ?_) (hy := ?_) (h := ?_)
                  rotate_left
                  · first | refine Or.inl ⟨by rfl, fun w hO => ?_⟩ | (refine Or.inr ⟨by rfl, ?_⟩; with_reducible rfl)
                    first | done | (refine Out.call (f := 54) (args := ?_) ?_ ?_; rotate_left; (focus (go_simp; all_goals with_reducible rfl)); exact HTWO.out _)
                  refine Sim.sP (i := 19) (d := some 11) (h := ?_)
                  refine Sim.done (by kernel_rfl) (fun w1 hO hX => ?_) _
                  (try simp only [World.size_alloc1, World.size_drew, Nat.reduceAdd] at hO); (try simp only [upd, updI, List.map_cons, List.map_nil, eq_self, if_true, if_false, reduceIte, Nat.add_eq_left, Nat.left_eq_add, Nat.reduceEqDiff, List.set_cons_zero, List.set_cons_succ] at hO)
                  have hF := hO; (try simp only [Own, Item.Holds, apartI, CellsAt, Nat.reduceAdd, Nat.zero_add, List.mem_cons, List.not_mem_nil, or_false, forall_eq_or_imp, forall_eq, ne_eq, false_imp_iff, implies_true, and_true] at hF)
                  by_cases ht : t = 0
                  · have HU2 := hid (HU.out.trans (wf_zero ht))
                    subst ht
                    clear HU HU1
                    go_wp2_with fail
                    go_roundw
                    case rel => exact ⟨p + 1 + 1, by omega, by go_num, by rw [HU2.out, HR.out]; exact hO⟩
                    case measure => simp [intOf]; omega
                  · have HU2 := hid (wf_more (us := us) (k := (p : Int) + 1) ht)
                    have t1 : (t == 0) = false := by simp [ht]
                    have t2 : (t != 0) = true := by simp [ht]
                    go_wp2_with (at_builtin; apply own_list hO; (repeat (first | (with_reducible exact hO) | (with_reducible apply Own.alloc) | (with_reducible apply Own.drew) | ((with_reducible apply Own.set_at); (focus (show _ ≤ _; omega))))); have hG := hF; clear hF; clear hO; intro hO; (try simp only [World.size_alloc1, World.size_drew, Nat.reduceAdd] at hO); (try simp only [upd, updI, List.map_cons, List.map_nil, eq_self, if_true, if_false, reduceIte, Nat.add_eq_left, Nat.left_eq_add, Nat.reduceEqDiff, List.set_cons_zero, List.set_cons_succ, hG] at hO); clear hG; (try simp only [World.size_setCell] at hO); have hF := hO; (try simp only [Own, Item.Holds, apartI, CellsAt, Nat.reduceAdd, Nat.zero_add, List.mem_cons, List.not_mem_nil, or_false, forall_eq_or_imp, forall_eq, ne_eq, false_imp_iff, implies_true, and_true] at hF); refine wpList_append_item rfl _ _ 33 rfl 36 i0 (.agg #[.int .i64 0, .int .i64 0]) 2 16 Tryd.underlying33 hi0 hz0 hz1 hz2 rfl (by decide) rfl rfl hO rfl one2t (by unfold maxLen; omega) (by omega) ?_; clear hO hF; intro v' w2 hO _; have hF := True.intro)
                    go_roundw
                    case rel => exact ⟨p + 1 + 1, by omega, by go_num, by rw [HU.out, ← HU2.out.1, ← HU2.out.2, HR.out]; exact hO⟩
                    case measure => simp [intOf]; omega
                · have HU1 := hid (wf_more (us := us) (k := (p : Int) + 1) hz)
                  have z1 : (z == 0) = false := by simp [hz]
                  have z2 : (z != 0) = true := by simp [hz]
                  go_wp2_with (at_builtin; apply own_list hO; (repeat (first | (with_reducible exact hO) | (with_reducible apply Own.alloc) | (with_reducible apply Own.drew) | ((with_reducible apply Own.set_at); (focus (show _ ≤ _; omega))))); have hG := hF; clear hF; clear hO; intro hO; (try simp only [World.size_alloc1, World.size_drew, Nat.reduceAdd] at hO); (try simp only [upd, updI, List.map_cons, List.map_nil, eq_self, if_true, if_false, reduceIte, Nat.add_eq_left, Nat.left_eq_add, Nat.reduceEqDiff, List.set_cons_zero, List.set_cons_succ, hG] at hO); clear hG; (try simp only [World.size_setCell] at hO); have hF := hO; (try simp only [Own, Item.Holds, apartI, CellsAt, Nat.reduceAdd, Nat.zero_add, List.mem_cons, List.not_mem_nil, or_false, forall_eq_or_imp, forall_eq, ne_eq, false_imp_iff, implies_true, and_true] at hF); refine wpList_append_item rfl _ _ 33 rfl 36 i0 (.agg #[.int .i64 0, .int .i64 0]) 2 16 Tryd.underlying33 hi0 hz0 hz1 hz2 rfl (by decide) rfl rfl hO rfl one2t (by unfold maxLen; omega) (by omega) ?_; clear hO hF; intro v' w2 hO _; have hF := True.intro)
                  rw [HU1.out.1] at hO
                  obtain ⟨us2, hus2⟩ : ∃ u, wfL us ((p : Int) + 1) z = u := ⟨_, rfl⟩
                  rw [hus2] at hO HU HU1
                  obtain ⟨r2, hr2⟩ : ∃ a, r + 1 = a := ⟨_, rfl⟩
                  have HR2 := hid (show us2.length = r2 by rw [← HU1.out.2, HR.out]; exact hr2)
                  have hql2 : r2 ≤ 2 * (p + 1) + 1 := by omega
                  rw [hr2] at hO
                  clear hz z1 z2 hus2 HU1 HR hr2 hql
                  apply own_code hO
                  (repeat (first | (with_reducible exact hO) | (with_reducible apply Own.alloc) | (with_reducible apply Own.drew) | ((with_reducible apply Own.set_at); (focus (show _ ≤ _; omega)))))
                  have hG := hF; clear hF; clear hO; intro hO
                  (try simp only [World.size_alloc1, World.size_drew, Nat.reduceAdd] at hO); (try simp only [upd, updI, List.map_cons, List.map_nil, eq_self, if_true, if_false, reduceIte, Nat.add_eq_left, Nat.left_eq_add, Nat.reduceEqDiff, List.set_cons_zero, List.set_cons_succ, hG] at hO); clear hG
                  refine region_own (X := fun _ => True) [] (by kernel_rfl) (hO) (trivial) (by first | exact XStab.true | exact XStab.rd | exact XStab.rdIf) ?_
                  clear hO
                  refine Sim.sP (i := 0) (d := some 67) (h := ?_)
                  refine Sim.sP (i := 1) (d := some 68) (h := ?_)
                  refine Sim.sP (i := 2) (d := some 69) (h := ?_)
                  refine Sim.sP (i := 3) (d := some 70) (h := ?_)
                  refine Sim.sO (i := 4) (d := some 71) (v := ?_) (hy := ?_) (h := ?_)
                  rotate_left
                  · first | refine Or.inl ⟨by rfl, fun w hO => ?_⟩ | (refine Or.inr ⟨by rfl, ?_⟩; with_reducible rfl)
                    first | done | (have hF := hO; (try simp only [Own, Item.Holds, apartI, CellsAt, Nat.reduceAdd, Nat.zero_add, List.mem_cons, List.not_mem_nil, or_false, forall_eq_or_imp, forall_eq, ne_eq, false_imp_iff, implies_true, and_true] at hF); ((have ⟨x0, x1, x2⟩ := ptAt (HC.out.below hO.base) HX.out.1; have ⟨y0, y1, y2⟩ := ptAt (HL.out.below hO.base) HX.out.2; have ⟨x3, x4, x5⟩ := ptAt (HC.out.below hO.base) HY.out.1; have ⟨y3, y4, y5⟩ := ptAt (HL.out.below hO.base) HY.out.2)); refine Out.same ?_; go_simp; all_goals with_reducible rfl)
                  refine Sim.sP (i := 5) (d := some 72) (h := ?_)
                  refine Sim.sP (i := 6) (d := some 73) (h := ?_)
                  refine Sim.sP (i := 7) (d := some 74) (h := ?_)
                  refine Sim.sP (i := 8) (d := some 75) (h := ?_)
                  refine Sim.sO (i := 9) (d := some 76) (v := ?_) (hy := ?_) (h := ?_)
                  rotate_left
                  · first | refine Or.inl ⟨by rfl, fun w hO => ?_⟩ | (refine Or.inr ⟨by rfl, ?_⟩; with_reducible rfl)
                    first | done | (have hF := hO; (try simp only [Own, Item.Holds, apartI, CellsAt, Nat.reduceAdd, Nat.zero_add, List.mem_cons, List.not_mem_nil, or_false, forall_eq_or_imp, forall_eq, ne_eq, false_imp_iff, implies_true, and_true] at hF); ((have ⟨x0, x1, x2⟩ := ptAt (HC.out.below hO.base) HX.out.1; have ⟨y0, y1, y2⟩ := ptAt (HL.out.below hO.base) HX.out.2; have ⟨x3, x4, x5⟩ := ptAt (HC.out.below hO.base) HY.out.1; have ⟨y3, y4, y5⟩ := ptAt (HL.out.below hO.base) HY.out.2)); refine Out.same ?_; go_simp; all_goals with_reducible rfl)
                  refine Sim.sP (i := 10) (d := some 77) (h := ?_)
                  refine Sim.sP (i := 11) (d := some 78) (h := ?_)
                  refine Sim.sP (i := 12) (d := some 79) (h := ?_)
                  refine Sim.sO (i := 13) (d := some 80) (v := ?_) (hy := ?_) (h := ?_)
                  rotate_left
                  · first | refine Or.inl ⟨by rfl, fun w hO => ?_⟩ | (refine Or.inr ⟨by rfl, ?_⟩; with_reducible rfl)
                    first | done | (have hF := hO; (try simp only [Own, Item.Holds, apartI, CellsAt, Nat.reduceAdd, Nat.zero_add, List.mem_cons, List.not_mem_nil, or_false, forall_eq_or_imp, forall_eq, ne_eq, false_imp_iff, implies_true, and_true] at hF); ((have ⟨x0, x1, x2⟩ := ptAt (HC.out.below hO.base) HX.out.1; have ⟨y0, y1, y2⟩ := ptAt (HL.out.below hO.base) HX.out.2; have ⟨x3, x4, x5⟩ := ptAt (HC.out.below hO.base) HY.out.1; have ⟨y3, y4, y5⟩ := ptAt (HL.out.below hO.base) HY.out.2)); refine Out.same ?_; go_simp; all_goals with_reducible rfl)
                  refine Sim.sP (i := 14) (d := some 81) (h := ?_)
                  refine Sim.sP (i := 15) (d := some 82) (h := ?_)
                  refine Sim.sP (i := 16) (d := some 83) (h := ?_)
                  refine Sim.sO (i := 17) (d := some 84) (v := ?_) (hy := ?_) (h := ?_)
                  rotate_left
                  · first | refine Or.inl ⟨by rfl, fun w hO => ?_⟩ | (refine Or.inr ⟨by rfl, ?_⟩; with_reducible rfl)
                    first | done | (have hF := hO; (try simp only [Own, Item.Holds, apartI, CellsAt, Nat.reduceAdd, Nat.zero_add, List.mem_cons, List.not_mem_nil, or_false, forall_eq_or_imp, forall_eq, ne_eq, false_imp_iff, implies_true, and_true] at hF); ((have ⟨x0, x1, x2⟩ := ptAt (HC.out.below hO.base) HX.out.1; have ⟨y0, y1, y2⟩ := ptAt (HL.out.below hO.base) HX.out.2; have ⟨x3, x4, x5⟩ := ptAt (HC.out.below hO.base) HY.out.1; have ⟨y3, y4, y5⟩ := ptAt (HL.out.below hO.base) HY.out.2)); refine Out.same ?_; go_simp; all_goals with_reducible rfl)
                  refine Sim.sO (i := 18) (d := some 85) (v := ?_) (hy := ?_) (h := ?_)
                  rotate_left
                  · first | refine Or.inl ⟨by rfl, fun w hO => ?_⟩ | (refine Or.inr ⟨by rfl, ?_⟩; with_reducible rfl)
                    first | done | (refine Out.call (f := 54) (args := ?_) ?_ ?_; rotate_left; (focus (go_simp; all_goals with_reducible rfl)); exact HTWO.out _)
                  refine Sim.sP (i := 19) (d := some 11) (h := ?_)
                  refine Sim.done (by kernel_rfl) (fun w1 hO hX => ?_) _
                  (try simp only [World.size_alloc1, World.size_drew, Nat.reduceAdd] at hO); (try simp only [upd, updI, List.map_cons, List.map_nil, eq_self, if_true, if_false, reduceIte, Nat.add_eq_left, Nat.left_eq_add, Nat.reduceEqDiff, List.set_cons_zero, List.set_cons_succ] at hO)
                  have hF := hO; (try simp only [Own, Item.Holds, apartI, CellsAt, Nat.reduceAdd, Nat.zero_add, List.mem_cons, List.not_mem_nil, or_false, forall_eq_or_imp, forall_eq, ne_eq, false_imp_iff, implies_true, and_true] at hF)
                  by_cases ht : t = 0
                  · have HU2 := hid (HU.out.trans (wf_zero ht))
                    subst ht
                    clear HU
                    go_wp2_with fail
                    go_roundw
                    case rel => exact ⟨p + 1 + 1, by omega, by go_num, by rw [HU2.out, HR2.out]; exact hO⟩
                    case measure => simp [intOf]; omega
                  · have HU2 := hid (wf_more (us := us2) (k := (p : Int) + 1) ht)
                    have t1 : (t == 0) = false := by simp [ht]
                    have t2 : (t != 0) = true := by simp [ht]
                    go_wp2_with (at_builtin; apply own_list hO; (repeat (first | (with_reducible exact hO) | (with_reducible apply Own.alloc) | (with_reducible apply Own.drew) | ((with_reducible apply Own.set_at); (focus (show _ ≤ _; omega))))); have hG := hF; clear hF; clear hO; intro hO; (try simp only [World.size_alloc1, World.size_drew, Nat.reduceAdd] at hO); (try simp only [upd, updI, List.map_cons, List.map_nil, eq_self, if_true, if_false, reduceIte, Nat.add_eq_left, Nat.left_eq_add, Nat.reduceEqDiff, List.set_cons_zero, List.set_cons_succ, hG] at hO); clear hG; (try simp only [World.size_setCell] at hO); have hF := hO; (try simp only [Own, Item.Holds, apartI, CellsAt, Nat.reduceAdd, Nat.zero_add, List.mem_cons, List.not_mem_nil, or_false, forall_eq_or_imp, forall_eq, ne_eq, false_imp_iff, implies_true, and_true] at hF); refine wpList_append_item rfl _ _ 33 rfl 36 i0 (.agg #[.int .i64 0, .int .i64 0]) 2 16 Tryd.underlying33 hi0 hz0 hz1 hz2 rfl (by decide) rfl rfl hO rfl one2t (by unfold maxLen; omega) (by omega) ?_; clear hO hF; intro v' w2 hO _; have hF := True.intro)
                    go_roundw
                    case rel => exact ⟨p + 1 + 1, by omega, by go_num, by rw [HU.out, ← HU2.out.1, ← HU2.out.2, HR2.out]; exact hO⟩
                    case measure => simp [intOf]; omega
        · have hlt : j < m := by omega
          have hlt2 : (j : Int) < m := by omega
          obtain ⟨b2, off, rfl, _, _, hb⟩ := hA' (by omega)
          obtain ⟨x, hx⟩ : ∃ x, l[j]? = some x := ⟨_, List.getElem?_eq_getElem (by have := HN.out; omega)⟩
          obtain ⟨d0, d1, d2⟩ := ptAt (HL.out.below hO.base) hx
          have HX := hid hx
          obtain ⟨d, hd⟩ : ∃ b, pvP x = b := ⟨_, rfl⟩
          have HP := hid (fun W => pvS_is (s := x.s) (a := x.a) (o := x.o) W hd)
          clear he hx
          cases d
          · have HE := hid (lfZ_no (f := f) (c := c) (lf_pv (List.mem_of_getElem? HX.out) hd))
            clear hd
            go_wp2_with (go_at_call 52; apply own_at hO; (repeat (first | (with_reducible exact hO) | (with_reducible apply Own.alloc) | (with_reducible apply Own.drew) | ((with_reducible apply Own.set_at); (focus (show _ ≤ _; omega))))); have hG := hF; clear hF; clear hO; intro hO; refine own_call hO (fun hB => HP.out _) ?_; clear hO; intro w1 hO; (try simp only [World.size_alloc1, World.size_drew, Nat.reduceAdd] at hO); (try simp only [upd, updI, List.map_cons, List.map_nil, eq_self, if_true, if_false, reduceIte, Nat.add_eq_left, Nat.left_eq_add, Nat.reduceEqDiff, List.set_cons_zero, List.set_cons_succ, hG] at hO); clear hG; have hF := hO; (try simp only [Own, Item.Holds, apartI, CellsAt, Nat.reduceAdd, Nat.zero_add, List.mem_cons, List.not_mem_nil, or_false, forall_eq_or_imp, forall_eq, ne_eq, false_imp_iff, implies_true, and_true] at hF))
            replace hO := hO.allocRow (e := 36) (cur := #[]) (k := 0) (cap := 0) 2 (by omega) (by unfold maxLen; omega) rfl
            go_ret
            rw [HE.out]
            exact RowOut.mk hO
          · have HB2 := hid (up14 hv.out HX.out hd)
            clear hd
            go_wp2_with (go_at_call 52; apply own_at hO; (repeat (first | (with_reducible exact hO) | (with_reducible apply Own.alloc) | (with_reducible apply Own.drew) | ((with_reducible apply Own.set_at); (focus (show _ ≤ _; omega))))); have hG := hF; clear hF; clear hO; intro hO; refine own_call hO (fun hB => HP.out _) ?_; clear hO; intro w1 hO; (try simp only [World.size_alloc1, World.size_drew, Nat.reduceAdd] at hO); (try simp only [upd, updI, List.map_cons, List.map_nil, eq_self, if_true, if_false, reduceIte, Nat.add_eq_left, Nat.left_eq_add, Nat.reduceEqDiff, List.set_cons_zero, List.set_cons_succ, hG] at hO); clear hG; have hF := hO; (try simp only [Own, Item.Holds, apartI, CellsAt, Nat.reduceAdd, Nat.zero_add, List.mem_cons, List.not_mem_nil, or_false, forall_eq_or_imp, forall_eq, ne_eq, false_imp_iff, implies_true, and_true] at hF))
            go_roundw
            case rel => exact ⟨j + 1, by omega, by go_num, HB2.out, (by first | exact hO | exact Own.drop hO)⟩
            case measure => simp [intOf]; omega
    · have HE := hid (lfZ_no (f := f) (lf_ln (c := c) (l := l) (by rw [HN.out.1, HN.out.2]; exact hmn)))
      have e1 : ((m : Int) == (n : Int)) = false := by simp; omega
      have e2 : ((m : Int) != (n : Int)) = true := by simp; omega
      have e3 : (m == n) = false := by simp [hmn]
      go_enter Tryd.func18, Tryd.ntmps18
      go_wp2_with fail
      replace hO := hO.allocRow (e := 36) (cur := #[]) (k := 0) (cap := 0) 2 (by omega) (by unfold maxLen; omega) rfl
      go_wp2_with (go_at_call 14; apply own_at hO; (repeat (first | (with_reducible exact hO) | (with_reducible apply Own.alloc) | (with_reducible apply Own.drew) | ((with_reducible apply Own.set_at); (focus (show _ ≤ _; omega))))); have hG := hF; clear hF; clear hO; intro hO; refine own_call hO (fun hB => HCV.out _ hB) ?_; clear hO; intro w1 hO; (try simp only [World.size_alloc1, World.size_drew, Nat.reduceAdd] at hO); (try simp only [upd, updI, List.map_cons, List.map_nil, eq_self, if_true, if_false, reduceIte, Nat.add_eq_left, Nat.left_eq_add, Nat.reduceEqDiff, List.set_cons_zero, List.set_cons_succ, hG] at hO); clear hG; have hF := hO; (try simp only [Own, Item.Holds, apartI, CellsAt, Nat.reduceAdd, Nat.zero_add, List.mem_cons, List.not_mem_nil, or_false, forall_eq_or_imp, forall_eq, ne_eq, false_imp_iff, implies_true, and_true] at hF))
      go_ret
      rw [HE.out]
      exact RowOut.mk hO

theorem lfS_is {f : Int} {va vb : Value} {c l : List Pt} {w : World} {n m k : Nat} {us : List (Int × Int)} (hnl : c.length = n) (hml : l.length = m) (hc : SlAt w va n 3 (pcC c)) (hl : SlAt w vb m 3 (pcC l)) (hn : n ≤ 1048576) (hm : m ≤ 1048576) (hu : lfZ f c l = us) (hk : us.length = k) (W : World) (hW : Below w.heap.size w W) :
    Calls Tryd.prog 18 #[.int .i64 f, va, vb] W (RowOut 36 2 k (tnC us) W) := by
  subst hnl hml hk hu
  exact lfS_any f va vb c l W (hc.below hW) (hl.below hW) hn hm

set_option maxRecDepth 20000 in
set_option maxHeartbeats 8000000 in
theorem lgS_any (f : Int) (va vb : Value) (c l : List Pt) (w : World) (hc : SlAt w va c.length 3 (pcC c)) (hl : SlAt w vb l.length 3 (pcC l)) (hn : c.length ≤ 1048576) (hm : l.length ≤ 1048576) :
    Calls Tryd.prog 21 #[.int .i64 f, va, vb] w fun e w' => e = .returned (.bool (lgB f c l)) ∧ Below w.heap.size w w' := by
  have hO := Own.start w
  have hF := True.intro
  obtain ⟨us, hus⟩ : ∃ u, lfZ f c l = u := ⟨_, rfl⟩
  obtain ⟨r, hr⟩ : ∃ r, us.length = r := ⟨_, rfl⟩
  have HLF := hid (lfS_is rfl rfl hc hl hn hm hus hr)
  obtain ⟨A, ca, rfl, nb, hA⟩ := hc.open
  obtain ⟨A', cb, rfl, mb, hA'⟩ := hl.open
  obtain ⟨n, hnl⟩ : ∃ n, c.length = n := ⟨_, rfl⟩
  obtain ⟨m, hml⟩ : ∃ m, l.length = m := ⟨_, rfl⟩
  have HN := hid (And.intro hnl hml)
  rw [hnl] at HLF
  rw [hml] at HLF
  rw [hnl] at hn nb hA hc ⊢
  rw [hml] at hm mb hA' hl ⊢
  have HC := hid hc
  have HL := hid hl
  have HUS := hid (And.intro hus hr)
  obtain ⟨b, hb⟩ : ∃ b, cvB f c = b := ⟨_, rfl⟩
  have HCV := hid (cvS_is hnl hc hn hb)
  have HB := hid hb
  clear hc hl hnl hml hb hus hr
  go_enter Tryd.func21, Tryd.ntmps21
  go_wp2_with fail
  (apply own_code hO; (repeat (first | (with_reducible exact hO) | (with_reducible apply Own.alloc) | (with_reducible apply Own.drew) | ((with_reducible apply Own.set_at); (focus (show _ ≤ _; omega))))); have hG := hF; clear hF; clear hO; intro hO; (try simp only [World.size_alloc1, World.size_drew, Nat.reduceAdd] at hO); (try simp only [upd, updI, List.map_cons, List.map_nil, eq_self, if_true, if_false, reduceIte, Nat.add_eq_left, Nat.left_eq_add, Nat.reduceEqDiff, List.set_cons_zero, List.set_cons_succ, hG] at hO); clear hG; have hF := hO; (try simp only [Own, Item.Holds, apartI, CellsAt, Nat.reduceAdd, Nat.zero_add, List.mem_cons, List.not_mem_nil, or_false, forall_eq_or_imp, forall_eq, ne_eq, false_imp_iff, implies_true, and_true] at hF))
  go_loopw [7] (fun t wr => ∃ j : Nat, j ≤ m ∧ t = .int .i64 j ∧ Hid (∀ (i : Nat) (x : Pt), i < j → l[i]? = some x → pvP x = true) ∧ Own w.heap.size (Below w.heap.size w) wr []) (fun t _ => m - (intOf t).toNat)
  case atStart => exact ⟨0, by omega, rfl, fun i x h => by omega, hO⟩
  case round =>
    clear hO hF
    obtain ⟨j, hj, rfl, hv, hO⟩ := hrel
    have hF := hO; (try simp only [Own, Item.Holds, apartI, CellsAt, Nat.reduceAdd, Nat.zero_add, List.mem_cons, List.not_mem_nil, or_false, forall_eq_or_imp, forall_eq, ne_eq, false_imp_iff, implies_true, and_true] at hF)
    by_cases he : j = m
    · subst he
      have HPV := hid (all14 HN.out.2 hv.out)
      clear hv
      cases b
      · have HE := hid (lgB_no (l := l) (lf_cv HB.out))
        go_wp2_with (go_at_call 14; apply own_at hO; (repeat (first | (with_reducible exact hO) | (with_reducible apply Own.alloc) | (with_reducible apply Own.drew) | ((with_reducible apply Own.set_at); (focus (show _ ≤ _; omega))))); have hG := hF; clear hF; clear hO; intro hO; refine own_call hO (fun hB => HCV.out _ hB) ?_; clear hO; intro w1 hO; (try simp only [World.size_alloc1, World.size_drew, Nat.reduceAdd] at hO); (try simp only [upd, updI, List.map_cons, List.map_nil, eq_self, if_true, if_false, reduceIte, Nat.add_eq_left, Nat.left_eq_add, Nat.reduceEqDiff, List.set_cons_zero, List.set_cons_succ, hG] at hO); clear hG; have hF := hO; (try simp only [Own, Item.Holds, apartI, CellsAt, Nat.reduceAdd, Nat.zero_add, List.mem_cons, List.not_mem_nil, or_false, forall_eq_or_imp, forall_eq, ne_eq, false_imp_iff, implies_true, and_true] at hF))
        go_ret
        exact ⟨ret_bool HE.out.symm, Own.base (by first | exact hO | (repeat (first | (with_reducible exact hO) | (with_reducible apply Own.alloc) | (with_reducible apply Own.drew) | ((with_reducible apply Own.set_at); (focus (show _ ≤ _; omega))))))⟩
      · by_cases hjn : j = n
        · have hjn2 : ((j : Int) == (n : Int)) = true := by simp [hjn]
          have hjn3 : (j == n) = true := by simp [hjn]
          have HY := hid (lf_yes HB.out ((HN.out.2.trans hjn).trans HN.out.1.symm) HPV.out)
          by_cases hr0 : r = 0
          · have HE := hid (show lgB f c l = true by
              have := HUS.out.2
              rw [hr0] at this
              unfold lgB; rw [HY.out, HUS.out.1, List.eq_nil_of_length_eq_zero this]; rfl)
            subst hr0
            have HJ := hid hjn
            clear hjn
            go_wp2_with ((go_at_call 14; apply own_at hO; (repeat (first | (with_reducible exact hO) | (with_reducible apply Own.alloc) | (with_reducible apply Own.drew) | ((with_reducible apply Own.set_at); (focus (show _ ≤ _; omega))))); have hG := hF; clear hF; clear hO; intro hO; refine own_call hO (fun hB => HCV.out _ hB) ?_; clear hO; intro w1 hO; (try simp only [World.size_alloc1, World.size_drew, Nat.reduceAdd] at hO); (try simp only [upd, updI, List.map_cons, List.map_nil, eq_self, if_true, if_false, reduceIte, Nat.add_eq_left, Nat.left_eq_add, Nat.reduceEqDiff, List.set_cons_zero, List.set_cons_succ, hG] at hO); clear hG; have hF := hO; (try simp only [Own, Item.Holds, apartI, CellsAt, Nat.reduceAdd, Nat.zero_add, List.mem_cons, List.not_mem_nil, or_false, forall_eq_or_imp, forall_eq, ne_eq, false_imp_iff, implies_true, and_true] at hF)))
            go_wp2_with ((go_at_call 18; apply own_at hO; (repeat (first | (with_reducible exact hO) | (with_reducible apply Own.alloc) | (with_reducible apply Own.drew) | ((with_reducible apply Own.set_at); (focus (show _ ≤ _; omega))))); have hG := hF; clear hF; clear hO; intro hO; refine own_call_row hO (fun hB => HLF.out _ hB) ?_; clear hO; intro v w1 hO; (try simp only [World.size_alloc1, World.size_drew, Nat.reduceAdd] at hO); (try simp only [upd, updI, List.map_cons, List.map_nil, eq_self, if_true, if_false, reduceIte, Nat.add_eq_left, Nat.left_eq_add, Nat.reduceEqDiff, List.set_cons_zero, List.set_cons_succ, hG] at hO); clear hG; have hF := hO; (try simp only [Own, Item.Holds, apartI, CellsAt, Nat.reduceAdd, Nat.zero_add, List.mem_cons, List.not_mem_nil, or_false, forall_eq_or_imp, forall_eq, ne_eq, false_imp_iff, implies_true, and_true] at hF)); obtain ⟨A9, c9, hv9⟩ := (SlAt.of_row hO.1.1).form; subst hv9)
            go_ret
            exact ⟨ret_bool HE.out.symm, Own.base (by first | exact hO | (repeat (first | (with_reducible exact hO) | (with_reducible apply Own.alloc) | (with_reducible apply Own.drew) | ((with_reducible apply Own.set_at); (focus (show _ ≤ _; omega))))))⟩
          · have hr1 : ((r : Int) == 0) = false := by simp; omega
            have hr2 : (r == 0) = false := by simp [hr0]
            have HE := hid (show lgB f c l = false by
              have := HUS.out.2
              unfold lgB; rw [HY.out, HUS.out.1]
              cases us with
              | nil => simp at this; omega
              | cons x u => rfl)
            have HJ := hid hjn
            clear hjn
            go_wp2_with ((go_at_call 14; apply own_at hO; (repeat (first | (with_reducible exact hO) | (with_reducible apply Own.alloc) | (with_reducible apply Own.drew) | ((with_reducible apply Own.set_at); (focus (show _ ≤ _; omega))))); have hG := hF; clear hF; clear hO; intro hO; refine own_call hO (fun hB => HCV.out _ hB) ?_; clear hO; intro w1 hO; (try simp only [World.size_alloc1, World.size_drew, Nat.reduceAdd] at hO); (try simp only [upd, updI, List.map_cons, List.map_nil, eq_self, if_true, if_false, reduceIte, Nat.add_eq_left, Nat.left_eq_add, Nat.reduceEqDiff, List.set_cons_zero, List.set_cons_succ, hG] at hO); clear hG; have hF := hO; (try simp only [Own, Item.Holds, apartI, CellsAt, Nat.reduceAdd, Nat.zero_add, List.mem_cons, List.not_mem_nil, or_false, forall_eq_or_imp, forall_eq, ne_eq, false_imp_iff, implies_true, and_true] at hF)))
            go_wp2_with ((go_at_call 18; apply own_at hO; (repeat (first | (with_reducible exact hO) | (with_reducible apply Own.alloc) | (with_reducible apply Own.drew) | ((with_reducible apply Own.set_at); (focus (show _ ≤ _; omega))))); have hG := hF; clear hF; clear hO; intro hO; refine own_call_row hO (fun hB => HLF.out _ hB) ?_; clear hO; intro v w1 hO; (try simp only [World.size_alloc1, World.size_drew, Nat.reduceAdd] at hO); (try simp only [upd, updI, List.map_cons, List.map_nil, eq_self, if_true, if_false, reduceIte, Nat.add_eq_left, Nat.left_eq_add, Nat.reduceEqDiff, List.set_cons_zero, List.set_cons_succ, hG] at hO); clear hG; have hF := hO; (try simp only [Own, Item.Holds, apartI, CellsAt, Nat.reduceAdd, Nat.zero_add, List.mem_cons, List.not_mem_nil, or_false, forall_eq_or_imp, forall_eq, ne_eq, false_imp_iff, implies_true, and_true] at hF)); obtain ⟨A9, c9, hv9⟩ := (SlAt.of_row hO.1.1).form; subst hv9)
            go_ret
            exact ⟨ret_bool HE.out.symm, Own.base (by first | exact hO | (repeat (first | (with_reducible exact hO) | (with_reducible apply Own.alloc) | (with_reducible apply Own.drew) | ((with_reducible apply Own.set_at); (focus (show _ ≤ _; omega))))))⟩
        · have hjn2 : ((j : Int) == (n : Int)) = false := by simp; omega
          have hjn3 : (j == n) = false := by simp [hjn]
          have HE := hid (lgB_no (f := f) (lf_ln (c := c) (l := l) (by rw [HN.out.1, HN.out.2]; exact hjn)))
          have HJ := hid hjn
          clear hjn
          go_wp2_with (go_at_call 14; apply own_at hO; (repeat (first | (with_reducible exact hO) | (with_reducible apply Own.alloc) | (with_reducible apply Own.drew) | ((with_reducible apply Own.set_at); (focus (show _ ≤ _; omega))))); have hG := hF; clear hF; clear hO; intro hO; refine own_call hO (fun hB => HCV.out _ hB) ?_; clear hO; intro w1 hO; (try simp only [World.size_alloc1, World.size_drew, Nat.reduceAdd] at hO); (try simp only [upd, updI, List.map_cons, List.map_nil, eq_self, if_true, if_false, reduceIte, Nat.add_eq_left, Nat.left_eq_add, Nat.reduceEqDiff, List.set_cons_zero, List.set_cons_succ, hG] at hO); clear hG; have hF := hO; (try simp only [Own, Item.Holds, apartI, CellsAt, Nat.reduceAdd, Nat.zero_add, List.mem_cons, List.not_mem_nil, or_false, forall_eq_or_imp, forall_eq, ne_eq, false_imp_iff, implies_true, and_true] at hF))
          go_ret
          exact ⟨ret_bool HE.out.symm, Own.base (by first | exact hO | (repeat (first | (with_reducible exact hO) | (with_reducible apply Own.alloc) | (with_reducible apply Own.drew) | ((with_reducible apply Own.set_at); (focus (show _ ≤ _; omega))))))⟩
    · have hlt : j < m := by omega
      have hlt2 : (j : Int) < m := by omega
      obtain ⟨b2, off, rfl, _, _, hb⟩ := hA' (by omega)
      obtain ⟨x, hx⟩ : ∃ x, l[j]? = some x := ⟨_, List.getElem?_eq_getElem (by have := HN.out; omega)⟩
      obtain ⟨d0, d1, d2⟩ := ptAt (HL.out.below hO.base) hx
      have HX := hid hx
      obtain ⟨d, hd⟩ : ∃ b, pvP x = b := ⟨_, rfl⟩
      have HP := hid (fun W => pvS_is (s := x.s) (a := x.a) (o := x.o) W hd)
      clear he hx
      cases d
      · have HE := hid (lgB_no (f := f) (c := c) (lf_pv (List.mem_of_getElem? HX.out) hd))
        clear hd
        go_wp2_with (go_at_call 52; apply own_at hO; (repeat (first | (with_reducible exact hO) | (with_reducible apply Own.alloc) | (with_reducible apply Own.drew) | ((with_reducible apply Own.set_at); (focus (show _ ≤ _; omega))))); have hG := hF; clear hF; clear hO; intro hO; refine own_call hO (fun hB => HP.out _) ?_; clear hO; intro w1 hO; (try simp only [World.size_alloc1, World.size_drew, Nat.reduceAdd] at hO); (try simp only [upd, updI, List.map_cons, List.map_nil, eq_self, if_true, if_false, reduceIte, Nat.add_eq_left, Nat.left_eq_add, Nat.reduceEqDiff, List.set_cons_zero, List.set_cons_succ, hG] at hO); clear hG; have hF := hO; (try simp only [Own, Item.Holds, apartI, CellsAt, Nat.reduceAdd, Nat.zero_add, List.mem_cons, List.not_mem_nil, or_false, forall_eq_or_imp, forall_eq, ne_eq, false_imp_iff, implies_true, and_true] at hF))
        go_ret
        exact ⟨ret_bool HE.out.symm, Own.base (by first | exact hO | (repeat (first | (with_reducible exact hO) | (with_reducible apply Own.alloc) | (with_reducible apply Own.drew) | ((with_reducible apply Own.set_at); (focus (show _ ≤ _; omega))))))⟩
      · have HB2 := hid (up14 hv.out HX.out hd)
        clear hd
        go_wp2_with (go_at_call 52; apply own_at hO; (repeat (first | (with_reducible exact hO) | (with_reducible apply Own.alloc) | (with_reducible apply Own.drew) | ((with_reducible apply Own.set_at); (focus (show _ ≤ _; omega))))); have hG := hF; clear hF; clear hO; intro hO; refine own_call hO (fun hB => HP.out _) ?_; clear hO; intro w1 hO; (try simp only [World.size_alloc1, World.size_drew, Nat.reduceAdd] at hO); (try simp only [upd, updI, List.map_cons, List.map_nil, eq_self, if_true, if_false, reduceIte, Nat.add_eq_left, Nat.left_eq_add, Nat.reduceEqDiff, List.set_cons_zero, List.set_cons_succ, hG] at hO); clear hG; have hF := hO; (try simp only [Own, Item.Holds, apartI, CellsAt, Nat.reduceAdd, Nat.zero_add, List.mem_cons, List.not_mem_nil, or_false, forall_eq_or_imp, forall_eq, ne_eq, false_imp_iff, implies_true, and_true] at hF))
        go_roundw
        case rel => exact ⟨j + 1, by omega, by go_num, HB2.out, (by first | exact hO | exact Own.drop hO)⟩
        case measure => simp [intOf]; omega
theorem lgS_is {f : Int} {va vb : Value} {c l : List Pt} {w : World} {n m : Nat} {b : Bool} (hnl : c.length = n) (hml : l.length = m) (hc : SlAt w va n 3 (pcC c)) (hl : SlAt w vb m 3 (pcC l)) (hn : n ≤ 1048576) (hm : m ≤ 1048576) (hb : lgB f c l = b) (W : World) (hW : Below w.heap.size w W) :
    Calls Tryd.prog 21 #[.int .i64 f, va, vb] W fun e w' => e = .returned (.bool b) ∧ Below W.heap.size W w' := by
  subst hnl hml hb
  exact lgS_any f va vb c l W (hc.below hW) (hl.below hW) hn hm
end Go.Proofs.YtfdglkiehkilnaaDoor
