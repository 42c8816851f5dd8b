/- Chapter 14 in the program: valid cantus; the rules for tones and steps, one by one. -/
import Derived.Test.YtieoobanpllmgaaDoorWalks14L
import Derived.Test.YtieoobanpllmgaaDoorWalks12W
import Derived.Test.YtieoobanpllmgaaDoorWalks10V
import Derived.Test.YtieoobanpllmgaaDoorWalks3I
import Derived.Test.YtieoobanpllmgaaDoorWalks1
import Derived.Laws.BitsAllLaws
import Derived.Test.YtieoobanpllmgaaDoorRegionD
namespace Go.Proofs.YtieoobanpllmgaaDoor
set_option linter.unusedSimpArgs false
set_option linter.unusedVariables false
set_option maxRecDepth 8000
open Go.RowKit Go.Joins

theorem keyI14 {x : Pt} {z : Int} (hz : kyP x = z) (W : World) (ht : TabH W) :
    Calls Tryd.prog 19 #[.agg #[.int .i64 x.s, .int .i64 x.a, .int .i64 x.o]] W fun e w' => e = .returned (.int .i64 z) ∧ Below W.heap.size W w' := by
  subst hz; exact keyI_any x.s x.a x.o W ht

theorem ikI14 {f : Int} {x : Pt} {b : Bool} (h : ikP f x = b) (W : World) (hA : TabA W) :
    Calls Tryd.prog 68 #[.int .i64 f, .agg #[.int .i64 x.s, .int .i64 x.a, .int .i64 x.o]] W fun e w' => e = .returned (.bool b) ∧ Below W.heap.size W w' := by
  subst h; exact ikI_any f x.s x.a x.o W hA

set_option maxRecDepth 8000 in
set_option maxHeartbeats 4000000 in
theorem cvI_any (f : Int) (va : Value) (l : List Pt) (w : World) (hs : SlAt w va l.length 3 (pcC l)) (hn : l.length ≤ 1048576) (hA9 : TabA w) :
    Calls Tryd.prog 49 #[.int .i64 f, va] w fun e w' => e = .returned (.bool (cvB f l)) ∧ Below w.heap.size w w' := by
  have hO := Own.start w
  have hF := True.intro
  obtain ⟨A, c, rfl, nb, hA⟩ := hs.open
  have HA := hid hs
  have HTA := hid hA9
  clear hs hA9
  obtain ⟨n, hnl⟩ : ∃ n, l.length = n := ⟨_, rfl⟩
  have HN := hid hnl
  rw [hnl] at hn nb hA HA ⊢
  clear hnl
  by_cases h2 : n < 2
  · have h2' : (n : Int) < 2 := by omega
    have HV := hid (show cvB f l = false by
      rw [← Bool.not_eq_true, cvB_iff]
      rintro ⟨_, h, _⟩
      rw [HN.out] at h; omega)
    go_enter Tryd.func49, Tryd.ntmps49
    go_wp2_with fail
    go_ret
    exact ⟨ret_bool HV.out.symm, Own.base (by first | exact hO | (repeat (first | (with_reducible exact hO) | (with_reducible apply Own.alloc) | (with_reducible apply Own.drew) | ((with_reducible apply Own.set_at); (focus (show _ ≤ _; omega))))))⟩
  · have h2' : ¬ (n : Int) < 2 := by omega
    by_cases h10 : 10 < n
    · have h10' : 10 < (n : Int) := by omega
      have HV := hid (show cvB f l = false by
        rw [← Bool.not_eq_true, cvB_iff]
        rintro ⟨_, _, h, _⟩
        rw [HN.out] at h; omega)
      go_enter Tryd.func49, Tryd.ntmps49
      go_wp2_with fail
      go_ret
      exact ⟨ret_bool HV.out.symm, Own.base (by first | exact hO | (repeat (first | (with_reducible exact hO) | (with_reducible apply Own.alloc) | (with_reducible apply Own.drew) | ((with_reducible apply Own.set_at); (focus (show _ ≤ _; omega))))))⟩
    · have h10' : ¬ 10 < (n : Int) := by omega
      go_enter Tryd.func49, Tryd.ntmps49
      go_wp2_with fail
      (apply own_code hO; (repeat (first | (with_reducible exact hO) | (with_reducible apply Own.alloc) | (with_reducible apply Own.drew) | ((with_reducible apply Own.set_at); (focus (show _ ≤ _; omega))))); have hG := hF; clear hF; clear hO; intro hO; (try simp only [World.size_alloc1, World.size_drew, Nat.reduceAdd] at hO); (try simp only [upd, updI, List.map_cons, List.map_nil, eq_self, if_true, if_false, reduceIte, Nat.add_eq_left, Nat.left_eq_add, Nat.reduceEqDiff, List.set_cons_zero, List.set_cons_succ, hG] at hO); clear hG; have hF := hO; (try simp only [Own, Item.Holds, apartI, CellsAt, Nat.reduceAdd, Nat.zero_add, List.mem_cons, List.not_mem_nil, or_false, forall_eq_or_imp, forall_eq, ne_eq, false_imp_iff, implies_true, and_true] at hF))
      go_loopw [17] (fun t wr => ∃ j : Nat, j ≤ n ∧ t = .int .i64 j ∧ Hid (∀ (i : Nat) (x : Pt), i < j → l[i]? = some x → ikP f x = true) ∧ Own w.heap.size (Below w.heap.size w) wr []) (fun t _ => n - (intOf t).toNat)
      case atStart => exact ⟨0, by omega, rfl, fun i x h => by omega, hO⟩
      case round =>
        clear hO hF
        obtain ⟨j, hj, rfl, hv, hO⟩ := hrel
        have hF := hO; (try simp only [Own, Item.Holds, apartI, CellsAt, Nat.reduceAdd, Nat.zero_add, List.mem_cons, List.not_mem_nil, or_false, forall_eq_or_imp, forall_eq, ne_eq, false_imp_iff, implies_true, and_true] at hF)
        by_cases he : j = n
        · subst he
          have HV := hid (show cvB f l = true by
            have h1 := all14 HN.out hv.out
            rw [cvB_iff]
            refine ⟨h1, by rw [HN.out]; omega, by rw [HN.out]; omega, ?_⟩
            obtain ⟨x, hx⟩ : ∃ x, l[0]? = some x := ⟨_, List.getElem?_eq_getElem (by have := HN.out; omega)⟩
            exact (ikP_iff.1 (h1 x (List.mem_of_getElem? hx))).1)
          clear hv
          go_wp2_with fail
          go_ret
          exact ⟨ret_bool HV.out.symm, Own.base (by first | exact hO | (repeat (first | (with_reducible exact hO) | (with_reducible apply Own.alloc) | (with_reducible apply Own.drew) | ((with_reducible apply Own.set_at); (focus (show _ ≤ _; omega))))))⟩
        · have hlt : j < n := by omega
          have hlt2 : (j : Int) < n := by omega
          obtain ⟨b, off, rfl, hc1, hc2, hb⟩ := hA (by omega)
          obtain ⟨x, hx⟩ : ∃ x, l[j]? = some x := ⟨_, List.getElem?_eq_getElem (by have := HN.out; omega)⟩
          obtain ⟨d0, d1, d2⟩ := ptAt (HA.out.below hO.base) hx
          have HX := hid hx
          obtain ⟨d, hd⟩ : ∃ b, ikP f x = b := ⟨_, rfl⟩
          have HC := hid (fun W (hW : Below w.heap.size w W) => ikI14 hd W (HTA.out.below hW))
          clear he hx
          cases d
          · have HV := hid (cvB_no (List.mem_of_getElem? HX.out) hd)
            clear hd
            go_wp2_with (go_at_call 68; apply own_at hO; (repeat (first | (with_reducible exact hO) | (with_reducible apply Own.alloc) | (with_reducible apply Own.drew) | ((with_reducible apply Own.set_at); (focus (show _ ≤ _; omega))))); have hG := hF; clear hF; clear hO; intro hO; refine own_call hO (fun hB => HC.out _ hB) ?_; clear hO; intro w1 hO; (try simp only [World.size_alloc1, World.size_drew, Nat.reduceAdd] at hO); (try simp only [upd, updI, List.map_cons, List.map_nil, eq_self, if_true, if_false, reduceIte, Nat.add_eq_left, Nat.left_eq_add, Nat.reduceEqDiff, List.set_cons_zero, List.set_cons_succ, hG] at hO); clear hG; have hF := hO; (try simp only [Own, Item.Holds, apartI, CellsAt, Nat.reduceAdd, Nat.zero_add, List.mem_cons, List.not_mem_nil, or_false, forall_eq_or_imp, forall_eq, ne_eq, false_imp_iff, implies_true, and_true] at hF))
            go_ret
            exact ⟨ret_bool HV.out.symm, Own.base (by first | exact hO | (repeat (first | (with_reducible exact hO) | (with_reducible apply Own.alloc) | (with_reducible apply Own.drew) | ((with_reducible apply Own.set_at); (focus (show _ ≤ _; omega))))))⟩
          · have HB := hid (up14 hv.out HX.out hd)
            clear hd
            go_wp2_with (go_at_call 68; apply own_at hO; (repeat (first | (with_reducible exact hO) | (with_reducible apply Own.alloc) | (with_reducible apply Own.drew) | ((with_reducible apply Own.set_at); (focus (show _ ≤ _; omega))))); have hG := hF; clear hF; clear hO; intro hO; refine own_call hO (fun hB => HC.out _ hB) ?_; clear hO; intro w1 hO; (try simp only [World.size_alloc1, World.size_drew, Nat.reduceAdd] at hO); (try simp only [upd, updI, List.map_cons, List.map_nil, eq_self, if_true, if_false, reduceIte, Nat.add_eq_left, Nat.left_eq_add, Nat.reduceEqDiff, List.set_cons_zero, List.set_cons_succ, hG] at hO); clear hG; have hF := hO; (try simp only [Own, Item.Holds, apartI, CellsAt, Nat.reduceAdd, Nat.zero_add, List.mem_cons, List.not_mem_nil, or_false, forall_eq_or_imp, forall_eq, ne_eq, false_imp_iff, implies_true, and_true] at hF))
            go_roundw
            case rel => exact ⟨j + 1, by omega, by go_num, HB.out, (by first | exact hO | exact Own.drop hO)⟩
            case measure => simp [intOf]; omega
theorem cvI_is {f : Int} {va : Value} {l : List Pt} {w : World} {b : Bool} {n : Nat} (hl : l.length = n) (hs : SlAt w va n 3 (pcC l)) (hn : n ≤ 1048576) (hA : TabA w) (hb : cvB f l = b) (W : World) (hW : Below w.heap.size w W) :
    Calls Tryd.prog 49 #[.int .i64 f, va] W fun e w' => e = .returned (.bool b) ∧ Below W.heap.size W w' := by
  subst hl hb; exact cvI_any f va l W (hs.below hW) hn (hA.below hW)

/- A cantus and a line over it. -/
structure CpAt (w : World) (f : Int) (va vb : Value) (c l : List Pt) (n : Nat) : Prop where
  hc : c.length = n
  hl : l.length = n
  sc : SlAt w va n 3 (pcC c)
  sl : SlAt w vb n 3 (pcC l)
  pc : ∀ x ∈ c, pvP x = true
  pl : ∀ x ∈ l, pvP x = true
  n2 : 2 ≤ n
  n10 : n ≤ 10
  hT : TabH w
  hA : TabA w
theorem CpAt.below {w w' : World} {f : Int} {va vb : Value} {c l : List Pt} {n : Nat} (h : CpAt w f va vb c l n) (hb : Below w.heap.size w w') : CpAt w' f va vb c l n :=
  ⟨h.hc, h.hl, h.sc.below hb, h.sl.below hb, h.pc, h.pl, h.n2, h.n10, h.hT.below hb, h.hA.below hb⟩
theorem CpAt.open {w : World} {f : Int} {va vb : Value} {c l : List Pt} {n : Nat} (h : CpAt w f va vb c l n) : ∃ b1 o1 c1 b2 o2 c2, va = .slice (some ⟨b1, o1, none⟩) n c1 ∧ vb = .slice (some ⟨b2, o2, none⟩) n c2 ∧ b1 < w.heap.size ∧ b2 < w.heap.size := by
  obtain ⟨A, ca, h1, _, hA⟩ := h.sc.open
  obtain ⟨A', cb, h2, _, hA'⟩ := h.sl.open
  have := h.n2
  obtain ⟨b1, o1, rfl, _, _, g1⟩ := hA (by omega)
  obtain ⟨b2, o2, rfl, _, _, g2⟩ := hA' (by omega)
  exact ⟨b1, o1, ca, b2, o2, cb, h1, h2, g1, g2⟩

set_option maxHeartbeats 4000000 in
theorem abI_is {w : World} {f : Int} {va vb : Value} {c l : List Pt} {n k : Nat} {y q : Pt} {z : Int} (h : CpAt w f va vb c l n) (hy : c[k]? = some y) (hq : l[k]? = some q) (hz : kyP q - kyP y = z) (W : World) (hW : Below w.heap.size w W) :
    Calls Tryd.prog 86 #[.agg #[.int .i64 f, va, vb], .int .i64 k] W fun e w' => e = .returned (.int .i64 z) ∧ Below W.heap.size W w' := by
  replace h := h.below hW
  clear hW w
  have hO := Own.start W
  have hF := True.intro
  obtain ⟨b1, o1, c1, b2, o2, c2, rfl, rfl, g1, g2⟩ := h.open
  have hk : k < n := by rw [← h.hc]; exact (List.getElem?_eq_some_iff.1 hy).1
  have hk2 : (k : Int) < (n : Int) := by omega
  have hk0 : (0 : Int) ≤ (k : Int) := by omega
  have e1 := ky14 (h.pc y (List.mem_of_getElem? hy))
  have e2 := ky14 (h.pl q (List.mem_of_getElem? hq))
  obtain ⟨zy, hzy⟩ : ∃ z, kyP y = z := ⟨_, rfl⟩
  obtain ⟨zq, hzq⟩ : ∃ z, kyP q = z := ⟨_, rfl⟩
  rw [hzy] at e1 hz
  rw [hzq] at e2 hz
  have wz : IntKind.i64.wrap (zq - zy) = z := by rw [hz]; exact IntWalk.i64_in _ (by omega)
  have HT := hid h.hT
  have HK1 := hid (fun V (hV : Below W.heap.size W V) => keyI14 hzy V (HT.out.below hV))
  have HK2 := hid (fun V (hV : Below W.heap.size W V) => keyI14 hzq V (HT.out.below hV))
  have HC := hid h.sc
  have HL := hid h.sl
  have HY := hid hy
  have HQ := hid hq
  clear h hy hq hzy hzq hz e1 e2
  go_enter Tryd.func86, Tryd.ntmps86
  go_wp2_with fail
  apply own_code hO
  (repeat (first | (with_reducible exact hO) | (with_reducible apply Own.alloc) | (with_reducible apply Own.drew) | ((with_reducible apply Own.set_at); (focus (show _ ≤ _; omega)))))
  have hG := hF; clear hF; clear hO; intro hO
  (try simp only [World.size_alloc1, World.size_drew, Nat.reduceAdd] at hO); (try simp only [upd, updI, List.map_cons, List.map_nil, eq_self, if_true, if_false, reduceIte, Nat.add_eq_left, Nat.left_eq_add, Nat.reduceEqDiff, List.set_cons_zero, List.set_cons_succ, hG] at hO); clear hG
  refine region_own (X := fun _ => True) [] (by kernel_rfl) (hO) (trivial) (by first | exact XStab.true | exact XStab.rd | exact XStab.rdIf) ?_
  clear hO
  refine Sim.sP (i := 0) (d := some 5) (h := ?_)
  refine Sim.sO (i := 1) (d := some 6) (v := ?_) (hy := ?_) (h := ?_)
  rotate_left
  · first | refine Or.inl ⟨by rfl, fun w hO => ?_⟩ | (refine Or.inr ⟨by rfl, ?_⟩; with_reducible rfl)
    first | done | (have hF := hO; (try simp only [Own, Item.Holds, apartI, CellsAt, Nat.reduceAdd, Nat.zero_add, List.mem_cons, List.not_mem_nil, or_false, forall_eq_or_imp, forall_eq, ne_eq, false_imp_iff, implies_true, and_true] at hF); ((have ⟨x0, x1, x2⟩ := ptAt (HC.out.below hO.base) HY.out; have ⟨y0, y1, y2⟩ := ptAt (HL.out.below hO.base) HQ.out)); refine Out.same ?_; go_simp; all_goals with_reducible rfl)
  refine Sim.sP (i := 2) (d := some 7) (h := ?_)
  refine Sim.sP (i := 3) (d := some 8) (h := ?_)
  refine Sim.sO (i := 4) (d := some 9) (v := ?_) (hy := ?_) (h := ?_)
  rotate_left
  · first | refine Or.inl ⟨by rfl, fun w hO => ?_⟩ | (refine Or.inr ⟨by rfl, ?_⟩; with_reducible rfl)
    first | done | (have hF := hO; (try simp only [Own, Item.Holds, apartI, CellsAt, Nat.reduceAdd, Nat.zero_add, List.mem_cons, List.not_mem_nil, or_false, forall_eq_or_imp, forall_eq, ne_eq, false_imp_iff, implies_true, and_true] at hF); ((have ⟨x0, x1, x2⟩ := ptAt (HC.out.below hO.base) HY.out; have ⟨y0, y1, y2⟩ := ptAt (HL.out.below hO.base) HQ.out)); refine Out.same ?_; go_simp; all_goals with_reducible rfl)
  refine Sim.sO (i := 5) (d := some 10) (v := ?_) (hy := ?_) (h := ?_)
  rotate_left
  · first | refine Or.inl ⟨by rfl, fun w hO => ?_⟩ | (refine Or.inr ⟨by rfl, ?_⟩; with_reducible rfl)
    first | done | (refine Out.call (f := 19) (args := ?_) ?_ ?_; rotate_left; (focus (go_simp; all_goals with_reducible rfl)); exact HK2.out _ hO.base)
  refine Sim.sP (i := 6) (d := some 11) (h := ?_)
  refine Sim.sO (i := 7) (d := some 12) (v := ?_) (hy := ?_) (h := ?_)
  rotate_left
  · first | refine Or.inl ⟨by rfl, fun w hO => ?_⟩ | (refine Or.inr ⟨by rfl, ?_⟩; with_reducible rfl)
    first | done | (have hF := hO; (try simp only [Own, Item.Holds, apartI, CellsAt, Nat.reduceAdd, Nat.zero_add, List.mem_cons, List.not_mem_nil, or_false, forall_eq_or_imp, forall_eq, ne_eq, false_imp_iff, implies_true, and_true] at hF); ((have ⟨x0, x1, x2⟩ := ptAt (HC.out.below hO.base) HY.out; have ⟨y0, y1, y2⟩ := ptAt (HL.out.below hO.base) HQ.out)); refine Out.same ?_; go_simp; all_goals with_reducible rfl)
  refine Sim.sP (i := 8) (d := some 13) (h := ?_)
  refine Sim.sP (i := 9) (d := some 14) (h := ?_)
  refine Sim.sO (i := 10) (d := some 15) (v := ?_) (hy := ?_) (h := ?_)
  rotate_left
  · first | refine Or.inl ⟨by rfl, fun w hO => ?_⟩ | (refine Or.inr ⟨by rfl, ?_⟩; with_reducible rfl)
    first | done | (have hF := hO; (try simp only [Own, Item.Holds, apartI, CellsAt, Nat.reduceAdd, Nat.zero_add, List.mem_cons, List.not_mem_nil, or_false, forall_eq_or_imp, forall_eq, ne_eq, false_imp_iff, implies_true, and_true] at hF); ((have ⟨x0, x1, x2⟩ := ptAt (HC.out.below hO.base) HY.out; have ⟨y0, y1, y2⟩ := ptAt (HL.out.below hO.base) HQ.out)); refine Out.same ?_; go_simp; all_goals with_reducible rfl)
  refine Sim.sO (i := 11) (d := some 16) (v := ?_) (hy := ?_) (h := ?_)
  rotate_left
  · first | refine Or.inl ⟨by rfl, fun w hO => ?_⟩ | (refine Or.inr ⟨by rfl, ?_⟩; with_reducible rfl)
    first | done | (refine Out.call (f := 19) (args := ?_) ?_ ?_; rotate_left; (focus (go_simp; all_goals with_reducible rfl)); exact HK1.out _ hO.base)
  refine Sim.sP (i := 12) (d := some 17) (h := ?_)
  refine Sim.sP (i := 13) (d := some 4) (h := ?_)
  refine Sim.done (by kernel_rfl) (fun w1 hO hX => ?_) _
  (try simp only [World.size_alloc1, World.size_drew, Nat.reduceAdd] at hO); (try simp only [upd, updI, List.map_cons, List.map_nil, eq_self, if_true, if_false, reduceIte, Nat.add_eq_left, Nat.left_eq_add, Nat.reduceEqDiff, List.set_cons_zero, List.set_cons_succ] at hO)
  have hF := hO; (try simp only [Own, Item.Holds, apartI, CellsAt, Nat.reduceAdd, Nat.zero_add, List.mem_cons, List.not_mem_nil, or_false, forall_eq_or_imp, forall_eq, ne_eq, false_imp_iff, implies_true, and_true] at hF)
  go_wp2
  go_ret
  exact ⟨rfl, Own.base (by first | exact hO | (repeat (first | (with_reducible exact hO) | (with_reducible apply Own.alloc) | (with_reducible apply Own.drew) | ((with_reducible apply Own.set_at); (focus (show _ ≤ _; omega))))))⟩

set_option maxHeartbeats 4000000 in
theorem clI_is {w : World} {f : Int} {va vb : Value} {c l : List Pt} {n k : Nat} {y q : Pt} {z : Int} (h : CpAt w f va vb c l n) (hy : c[k]? = some y) (hq : l[k]? = some q) (hz : (kyP q - kyP y) % 12 = z) (W : World) (hW : Below w.heap.size w W) :
    Calls Tryd.prog 88 #[.agg #[.int .i64 f, va, vb], .int .i64 k] W fun e w' => e = .returned (.int .i64 z) ∧ Below W.heap.size W w' := by
  replace h := h.below hW
  clear hW w
  have hO := Own.start W
  have hF := True.intro
  obtain ⟨b1, o1, c1, b2, o2, c2, rfl, rfl, g1, g2⟩ := h.open
  have hk : k < n := by rw [← h.hc]; exact (List.getElem?_eq_some_iff.1 hy).1
  have hk2 : (k : Int) < (n : Int) := by omega
  have hk0 : (0 : Int) ≤ (k : Int) := by omega
  have e1 := ky14 (h.pc y (List.mem_of_getElem? hy))
  have e2 := ky14 (h.pl q (List.mem_of_getElem? hq))
  obtain ⟨zy, hzy⟩ : ∃ z, kyP y = z := ⟨_, rfl⟩
  obtain ⟨zq, hzq⟩ : ∃ z, kyP q = z := ⟨_, rfl⟩
  rw [hzy] at e1 hz
  rw [hzq] at e2 hz
  have HU := hid (fun V => huI_is (p := zy) (q := zq) (z := z) (by omega) (by omega) (by omega) (by omega) (by omega) V)
  have HT := hid h.hT
  have HK1 := hid (fun V (hV : Below W.heap.size W V) => keyI14 hzy V (HT.out.below hV))
  have HK2 := hid (fun V (hV : Below W.heap.size W V) => keyI14 hzq V (HT.out.below hV))
  have HC := hid h.sc
  have HL := hid h.sl
  have HY := hid hy
  have HQ := hid hq
  clear h hy hq hzy hzq hz e1 e2
  go_enter Tryd.func88, Tryd.ntmps88
  go_wp2_with fail
  apply own_code hO
  (repeat (first | (with_reducible exact hO) | (with_reducible apply Own.alloc) | (with_reducible apply Own.drew) | ((with_reducible apply Own.set_at); (focus (show _ ≤ _; omega)))))
  have hG := hF; clear hF; clear hO; intro hO
  (try simp only [World.size_alloc1, World.size_drew, Nat.reduceAdd] at hO); (try simp only [upd, updI, List.map_cons, List.map_nil, eq_self, if_true, if_false, reduceIte, Nat.add_eq_left, Nat.left_eq_add, Nat.reduceEqDiff, List.set_cons_zero, List.set_cons_succ, hG] at hO); clear hG
  refine region_own (X := fun _ => True) [] (by kernel_rfl) (hO) (trivial) (by first | exact XStab.true | exact XStab.rd | exact XStab.rdIf) ?_
  clear hO
  refine Sim.sP (i := 0) (d := some 5) (h := ?_)
  refine Sim.sO (i := 1) (d := some 6) (v := ?_) (hy := ?_) (h := ?_)
  rotate_left
  · first | refine Or.inl ⟨by rfl, fun w hO => ?_⟩ | (refine Or.inr ⟨by rfl, ?_⟩; with_reducible rfl)
    first | done | (have hF := hO; (try simp only [Own, Item.Holds, apartI, CellsAt, Nat.reduceAdd, Nat.zero_add, List.mem_cons, List.not_mem_nil, or_false, forall_eq_or_imp, forall_eq, ne_eq, false_imp_iff, implies_true, and_true] at hF); ((have ⟨x0, x1, x2⟩ := ptAt (HC.out.below hO.base) HY.out; have ⟨y0, y1, y2⟩ := ptAt (HL.out.below hO.base) HQ.out)); refine Out.same ?_; go_simp; all_goals with_reducible rfl)
  refine Sim.sP (i := 2) (d := some 7) (h := ?_)
  refine Sim.sP (i := 3) (d := some 8) (h := ?_)
  refine Sim.sO (i := 4) (d := some 9) (v := ?_) (hy := ?_) (h := ?_)
  rotate_left
  · first | refine Or.inl ⟨by rfl, fun w hO => ?_⟩ | (refine Or.inr ⟨by rfl, ?_⟩; with_reducible rfl)
    first | done | (have hF := hO; (try simp only [Own, Item.Holds, apartI, CellsAt, Nat.reduceAdd, Nat.zero_add, List.mem_cons, List.not_mem_nil, or_false, forall_eq_or_imp, forall_eq, ne_eq, false_imp_iff, implies_true, and_true] at hF); ((have ⟨x0, x1, x2⟩ := ptAt (HC.out.below hO.base) HY.out; have ⟨y0, y1, y2⟩ := ptAt (HL.out.below hO.base) HQ.out)); refine Out.same ?_; go_simp; all_goals with_reducible rfl)
  refine Sim.sO (i := 5) (d := some 10) (v := ?_) (hy := ?_) (h := ?_)
  rotate_left
  · first | refine Or.inl ⟨by rfl, fun w hO => ?_⟩ | (refine Or.inr ⟨by rfl, ?_⟩; with_reducible rfl)
    first | done | (refine Out.call (f := 19) (args := ?_) ?_ ?_; rotate_left; (focus (go_simp; all_goals with_reducible rfl)); exact HK1.out _ hO.base)
  refine Sim.sP (i := 6) (d := some 11) (h := ?_)
  refine Sim.sO (i := 7) (d := some 12) (v := ?_) (hy := ?_) (h := ?_)
  rotate_left
  · first | refine Or.inl ⟨by rfl, fun w hO => ?_⟩ | (refine Or.inr ⟨by rfl, ?_⟩; with_reducible rfl)
    first | done | (have hF := hO; (try simp only [Own, Item.Holds, apartI, CellsAt, Nat.reduceAdd, Nat.zero_add, List.mem_cons, List.not_mem_nil, or_false, forall_eq_or_imp, forall_eq, ne_eq, false_imp_iff, implies_true, and_true] at hF); ((have ⟨x0, x1, x2⟩ := ptAt (HC.out.below hO.base) HY.out; have ⟨y0, y1, y2⟩ := ptAt (HL.out.below hO.base) HQ.out)); refine Out.same ?_; go_simp; all_goals with_reducible rfl)
  refine Sim.sP (i := 8) (d := some 13) (h := ?_)
  refine Sim.sP (i := 9) (d := some 14) (h := ?_)
  refine Sim.sO (i := 10) (d := some 15) (v := ?_) (hy := ?_) (h := ?_)
  rotate_left
  · first | refine Or.inl ⟨by rfl, fun w hO => ?_⟩ | (refine Or.inr ⟨by rfl, ?_⟩; with_reducible rfl)
    first | done | (have hF := hO; (try simp only [Own, Item.Holds, apartI, CellsAt, Nat.reduceAdd, Nat.zero_add, List.mem_cons, List.not_mem_nil, or_false, forall_eq_or_imp, forall_eq, ne_eq, false_imp_iff, implies_true, and_true] at hF); ((have ⟨x0, x1, x2⟩ := ptAt (HC.out.below hO.base) HY.out; have ⟨y0, y1, y2⟩ := ptAt (HL.out.below hO.base) HQ.out)); refine Out.same ?_; go_simp; all_goals with_reducible rfl)
  refine Sim.sO (i := 11) (d := some 16) (v := ?_) (hy := ?_) (h := ?_)
  rotate_left
  · first | refine Or.inl ⟨by rfl, fun w hO => ?_⟩ | (refine Or.inr ⟨by rfl, ?_⟩; with_reducible rfl)
    first | done | (refine Out.call (f := 19) (args := ?_) ?_ ?_; rotate_left; (focus (go_simp; all_goals with_reducible rfl)); exact HK2.out _ hO.base)
  refine Sim.sO (i := 12) (d := some 17) (v := ?_) (hy := ?_) (h := ?_)
  rotate_left
  · first | refine Or.inl ⟨by rfl, fun w hO => ?_⟩ | (refine Or.inr ⟨by rfl, ?_⟩; with_reducible rfl)
    first | done | (refine Out.call (f := 90) (args := ?_) ?_ ?_; rotate_left; (focus (go_simp; all_goals with_reducible rfl)); exact HU.out _)
  refine Sim.sP (i := 13) (d := some 4) (h := ?_)
  refine Sim.done (by kernel_rfl) (fun w1 hO hX => ?_) _
  (try simp only [World.size_alloc1, World.size_drew, Nat.reduceAdd] at hO); (try simp only [upd, updI, List.map_cons, List.map_nil, eq_self, if_true, if_false, reduceIte, Nat.add_eq_left, Nat.left_eq_add, Nat.reduceEqDiff, List.set_cons_zero, List.set_cons_succ] at hO)
  have hF := hO; (try simp only [Own, Item.Holds, apartI, CellsAt, Nat.reduceAdd, Nat.zero_add, List.mem_cons, List.not_mem_nil, or_false, forall_eq_or_imp, forall_eq, ne_eq, false_imp_iff, implies_true, and_true] at hF)
  go_wp2
  go_ret
  exact ⟨rfl, Own.base (by first | exact hO | (repeat (first | (with_reducible exact hO) | (with_reducible apply Own.alloc) | (with_reducible apply Own.drew) | ((with_reducible apply Own.set_at); (focus (show _ ≤ _; omega))))))⟩

set_option maxHeartbeats 4000000 in
theorem spI_is {w : World} {f : Int} {va vb : Value} {c l : List Pt} {n p : Nat} {o q : Pt} {z : Int} (h : CpAt w f va vb c l n) (ho : l[p]? = some o) (hq : l[p + 1]? = some q) (hz : kyP q - kyP o = z) (W : World) (hW : Below w.heap.size w W) :
    Calls Tryd.prog 89 #[.agg #[.int .i64 f, va, vb], .int .i64 ((p : Int) + 1)] W fun e w' => e = .returned (.int .i64 z) ∧ Below W.heap.size W w' := by
  replace h := h.below hW
  clear hW w
  have hO := Own.start W
  have hF := True.intro
  obtain ⟨b1, o1, c1, b2, o2, c2, rfl, rfl, g1, g2⟩ := h.open
  have hk : p + 1 < n := by rw [← h.hl]; exact (List.getElem?_eq_some_iff.1 hq).1
  have hn10 := h.n10
  have p0 : (0 : Int) ≤ (p : Int) := by omega
  have p2 : (p : Int) < (n : Int) := by omega
  have p3 : (p : Int) + 1 < (n : Int) := by omega
  have p4 : (0 : Int) ≤ (p : Int) + 1 := by omega
  have wi : IntKind.i64.wrap ((p : Int) + 1 - 1) = (p : Int) := by rw [show (p : Int) + 1 - 1 = (p : Int) by omega]; exact IntWalk.i64_in _ (by omega)
  have wi2 : IntKind.i64.wrap (p : Int) = (p : Int) := IntWalk.i64_in _ (by omega)
  have e1 := ky14 (h.pl o (List.mem_of_getElem? ho))
  have e2 := ky14 (h.pl q (List.mem_of_getElem? hq))
  obtain ⟨zo, hzo⟩ : ∃ z, kyP o = z := ⟨_, rfl⟩
  obtain ⟨zq, hzq⟩ : ∃ z, kyP q = z := ⟨_, rfl⟩
  rw [hzo] at e1 hz
  rw [hzq] at e2 hz
  have wz : IntKind.i64.wrap (zq - zo) = z := by rw [hz]; exact IntWalk.i64_in _ (by omega)
  have HT := hid h.hT
  have HK1 := hid (fun V (hV : Below W.heap.size W V) => keyI14 hzo V (HT.out.below hV))
  have HK2 := hid (fun V (hV : Below W.heap.size W V) => keyI14 hzq V (HT.out.below hV))
  have HL := hid h.sl
  have HY := hid ho
  have HQ := hid hq
  clear h ho hq hzo hzq hz e1 e2
  go_enter Tryd.func89, Tryd.ntmps89
  go_wp2_with fail
  apply own_code hO
  (repeat (first | (with_reducible exact hO) | (with_reducible apply Own.alloc) | (with_reducible apply Own.drew) | ((with_reducible apply Own.set_at); (focus (show _ ≤ _; omega)))))
  have hG := hF; clear hF; clear hO; intro hO
  (try simp only [World.size_alloc1, World.size_drew, Nat.reduceAdd] at hO); (try simp only [upd, updI, List.map_cons, List.map_nil, eq_self, if_true, if_false, reduceIte, Nat.add_eq_left, Nat.left_eq_add, Nat.reduceEqDiff, List.set_cons_zero, List.set_cons_succ, hG] at hO); clear hG
  refine region_own (X := fun _ => True) [] (by kernel_rfl) (hO) (trivial) (by first | exact XStab.true | exact XStab.rd | exact XStab.rdIf) ?_
  clear hO
  refine Sim.sP (i := 0) (d := some 5) (h := ?_)
  refine Sim.sO (i := 1) (d := some 6) (v := ?_) (hy := ?_) (h := ?_)
  rotate_left
  · first | refine Or.inl ⟨by rfl, fun w hO => ?_⟩ | (refine Or.inr ⟨by rfl, ?_⟩; with_reducible rfl)
    first | done | (have hF := hO; (try simp only [Own, Item.Holds, apartI, CellsAt, Nat.reduceAdd, Nat.zero_add, List.mem_cons, List.not_mem_nil, or_false, forall_eq_or_imp, forall_eq, ne_eq, false_imp_iff, implies_true, and_true] at hF); ((have ⟨x0, x1, x2⟩ := ptAt (HL.out.below hO.base) HY.out; have ⟨y0, y1, y2⟩ := ptAt (HL.out.below hO.base) HQ.out)); refine Out.same ?_; go_simp; all_goals with_reducible rfl)
  refine Sim.sP (i := 2) (d := some 7) (h := ?_)
  refine Sim.sP (i := 3) (d := some 8) (h := ?_)
  refine Sim.sO (i := 4) (d := some 9) (v := ?_) (hy := ?_) (h := ?_)
  rotate_left
  · first | refine Or.inl ⟨by rfl, fun w hO => ?_⟩ | (refine Or.inr ⟨by rfl, ?_⟩; with_reducible rfl)
    first | done | (have hF := hO; (try simp only [Own, Item.Holds, apartI, CellsAt, Nat.reduceAdd, Nat.zero_add, List.mem_cons, List.not_mem_nil, or_false, forall_eq_or_imp, forall_eq, ne_eq, false_imp_iff, implies_true, and_true] at hF); ((have ⟨x0, x1, x2⟩ := ptAt (HL.out.below hO.base) HY.out; have ⟨y0, y1, y2⟩ := ptAt (HL.out.below hO.base) HQ.out)); refine Out.same ?_; go_simp; all_goals with_reducible rfl)
  refine Sim.sO (i := 5) (d := some 10) (v := ?_) (hy := ?_) (h := ?_)
  rotate_left
  · first | refine Or.inl ⟨by rfl, fun w hO => ?_⟩ | (refine Or.inr ⟨by rfl, ?_⟩; with_reducible rfl)
    first | done | (refine Out.call (f := 19) (args := ?_) ?_ ?_; rotate_left; (focus (go_simp; all_goals with_reducible rfl)); exact HK2.out _ hO.base)
  refine Sim.sP (i := 6) (d := some 11) (h := ?_)
  refine Sim.sO (i := 7) (d := some 12) (v := ?_) (hy := ?_) (h := ?_)
  rotate_left
  · first | refine Or.inl ⟨by rfl, fun w hO => ?_⟩ | (refine Or.inr ⟨by rfl, ?_⟩; with_reducible rfl)
    first | done | (have hF := hO; (try simp only [Own, Item.Holds, apartI, CellsAt, Nat.reduceAdd, Nat.zero_add, List.mem_cons, List.not_mem_nil, or_false, forall_eq_or_imp, forall_eq, ne_eq, false_imp_iff, implies_true, and_true] at hF); ((have ⟨x0, x1, x2⟩ := ptAt (HL.out.below hO.base) HY.out; have ⟨y0, y1, y2⟩ := ptAt (HL.out.below hO.base) HQ.out)); refine Out.same ?_; go_simp; all_goals with_reducible rfl)
  refine Sim.sP (i := 8) (d := some 13) (h := ?_)
  refine Sim.sP (i := 9) (d := some 14) (h := ?_)
  refine Sim.sP (i := 10) (d := some 15) (h := ?_)
  refine Sim.sO (i := 11) (d := some 16) (v := ?_) (hy := ?_) (h := ?_)
  rotate_left
  · first | refine Or.inl ⟨by rfl, fun w hO => ?_⟩ | (refine Or.inr ⟨by rfl, ?_⟩; with_reducible rfl)
    first | done | (have hF := hO; (try simp only [Own, Item.Holds, apartI, CellsAt, Nat.reduceAdd, Nat.zero_add, List.mem_cons, List.not_mem_nil, or_false, forall_eq_or_imp, forall_eq, ne_eq, false_imp_iff, implies_true, and_true] at hF); ((have ⟨x0, x1, x2⟩ := ptAt (HL.out.below hO.base) HY.out; have ⟨y0, y1, y2⟩ := ptAt (HL.out.below hO.base) HQ.out)); refine Out.same ?_; go_simp; all_goals with_reducible rfl)
  refine Sim.sO (i := 12) (d := some 17) (v := ?_) (hy := ?_) (h := ?_)
  rotate_left
  · first | refine Or.inl ⟨by rfl, fun w hO => ?_⟩ | (refine Or.inr ⟨by rfl, ?_⟩; with_reducible rfl)
    first | done | (refine Out.call (f := 19) (args := ?_) ?_ ?_; rotate_left; (focus (go_simp; all_goals with_reducible rfl)); exact HK1.out _ hO.base)
  refine Sim.sP (i := 13) (d := some 18) (h := ?_)
  refine Sim.sP (i := 14) (d := some 4) (h := ?_)
  refine Sim.done (by kernel_rfl) (fun w1 hO hX => ?_) _
  (try simp only [World.size_alloc1, World.size_drew, Nat.reduceAdd] at hO); (try simp only [upd, updI, List.map_cons, List.map_nil, eq_self, if_true, if_false, reduceIte, Nat.add_eq_left, Nat.left_eq_add, Nat.reduceEqDiff, List.set_cons_zero, List.set_cons_succ] at hO)
  have hF := hO; (try simp only [Own, Item.Holds, apartI, CellsAt, Nat.reduceAdd, Nat.zero_add, List.mem_cons, List.not_mem_nil, or_false, forall_eq_or_imp, forall_eq, ne_eq, false_imp_iff, implies_true, and_true] at hF)
  go_wp2
  go_ret
  exact ⟨rfl, Own.base (by first | exact hO | (repeat (first | (with_reducible exact hO) | (with_reducible apply Own.alloc) | (with_reducible apply Own.drew) | ((with_reducible apply Own.set_at); (focus (show _ ≤ _; omega))))))⟩

/- Classes. -/
/-- A class is among those of a set. -/
def hsB (c m : Int) : Bool := if c = 129 then m == 0 || m == 7 else dsB m

set_option maxHeartbeats 4000000 in
theorem hasI_is {c m : Int} {b : Bool} (hc : c = 129 ∨ c = 3174) (h0 : 0 ≤ m) (h1 : m < 12) (hb : hsB c m = b) (W : World) :
    Calls Tryd.prog 87 #[.int .u16 c, .int .i64 m] W fun e w' => e = .returned (.bool b) ∧ Below W.heap.size W w' := by
  have hO := Own.start W
  have hF := True.intro
  rcases hc with rfl | rfl <;> rcases m12 h0 h1 with h | h | h | h | h | h | h | h | h | h | h | h <;> subst h <;> subst hb
  all_goals
    clear h0 h1
    go_enter Tryd.func87, Tryd.ntmps87
    go_wp2
    go_ret
    exact ⟨rfl, Own.base (by first | exact hO | (repeat (first | (with_reducible exact hO) | (with_reducible apply Own.alloc) | (with_reducible apply Own.drew) | ((with_reducible apply Own.set_at); (focus (show _ ≤ _; omega))))))⟩
end Go.Proofs.YtieoobanpllmgaaDoor
