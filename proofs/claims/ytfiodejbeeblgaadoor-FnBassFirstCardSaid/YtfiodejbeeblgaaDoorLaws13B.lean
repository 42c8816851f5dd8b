/- The walk of FnBassFirst, from contracts. -/
import Derived.Test.YtfiodejbeeblgaaDoorDraws13B
import Derived.Test.YtfiodejbeeblgaaDoorCon13
import Derived.Test.YtfiodejbeeblgaaDoorLawsPitch
import Derived.Test.YtfiodejbeeblgaaDoorDrawBase
import Derived.Test.YtfiodejbeeblgaaDoorRegionD
namespace Go.Proofs.YtfiodejbeeblgaaDoor
set_option linter.unusedSimpArgs false
set_option linter.unusedVariables false
set_option maxRecDepth 8000
open Go.RowKit

theorem samePS13B {va vb : Value} {m : Nat} {t : List Pt} {W : World} (h1 : SlAt W va m 3 (pcC t)) (h2 : SlAt W vb m 3 (pcC t)) :
    Calls Tryd.prog 12 #[va, vb] W fun e w' => e = .returned (.bool true) ∧ Below W.heap.size W w' :=
  samePS_same va vb m (pcC t) W h1 h2 (pcC_int t)
theorem stkR_own13B {n : Nat} {B : World → Prop} {w : World} {v : Value} {es : List (Value × List Pt)} {ll : List (List Pt)} {L : List Item} (hE : lsO es = ll) (h : Own n B w (.row 27 1 v es.length (vsO es) :: (rwP es ++ L))) : StkR w v ll := hE ▸ StkR.of_own h
theorem ba64B {f : Int} {x : Pt} (h : baOk f x) : p64s x := p64_pv h.2
theorem slAt_take13 {w : World} {b off cap n m : Nat} {v : List Pt} (h : SlAt w (.slice (some ⟨b, off, none⟩) n cap) n 3 (pcC v)) (hm : m ≤ n) : SlAt w (.slice (some ⟨b, off, none⟩) m cap) m 3 (pcC (v.take m)) := by
  have hl := h.1
  rw [pcC_len] at hl
  have e : pcC v = pcC (v.take m) ++ pcC (v.drop m) := by rw [← pcC_append, List.take_append_drop]
  rcases h.2 with ⟨h1, _⟩ | ⟨b', off', cap', h1, h2, h3, h4, h5⟩
  · cases h1
  · cases h1
    refine ⟨by rw [pcC_len, List.length_take]; congr 1; omega, Or.inr ⟨b, off, cap, rfl, by omega, h3, h4, fun j u hj => h5 j u ?_⟩⟩
    have hlt := (List.getElem?_eq_some_iff.1 hj).1
    rw [e, List.getElem?_append_left hlt]
    exact hj
theorem lx_step {s0 s : List Pt} {t : Nat} (h : lxZ s0 s) (h1 : 1 ≤ t) (h2 : t < 4) (he : ∀ i, 1 ≤ i → i < t → k4 s i = k4 s0 i) (hn : k4 s t ≠ k4 s0 t) : k4 s0 t < k4 s t := by
  unfold lxZ at h
  rcases (show t = 1 ∨ t = 2 ∨ t = 3 by omega) with rfl | rfl | rfl
  · omega
  · have := he 1 (by omega) (by omega); omega
  · have := he 1 (by omega) (by omega); have := he 2 (by omega) (by omega); omega
theorem keyI13 {l : List Pt} {i : Nat} {x : Pt} {z : Int} (h : l[i]? = some x) (hz : k4 l i = z) (W : World) (ht : TabH W) :
    Calls Tryd.prog 24 #[.agg #[.int .i64 x.s, .int .i64 x.a, .int .i64 x.o]] W fun e w' => e = .returned (.int .i64 z) ∧ Below W.heap.size W w' := by
  rw [k4_at h] at hz
  subst hz
  exact keyI_any x.s x.a x.o W ht

set_option maxRecDepth 20000 in
set_option maxHeartbeats 8000000 in
theorem fnBassFirst_of (v : Value) (n0 : Nat) (w : World) (hn : n0 ≤ maxLen) (h : BytesB w w.heap.size v n0) (ht : TabH w)
    (hS : CRz 19 w) (hI : CRz 18 w) :
    Calls Tryd.prog 6 #[v] w fun e w' => e = .returned (.bool true) ∧ Below w.heap.size w w' := by
  obtain ⟨a0, c0, rfl⟩ := h.form
  have hn' : (n0 : Int) ≤ 9223372036854775807 := by unfold maxLen at hn; omega
  by_cases hl : n0 ≤ 1048576
  · have hl' : (n0 : Int) ≤ 1048576 := by omega
    go_enter Tryd.func6, Tryd.ntmps6
    go_wp2_with (go_at_call 17; refine (DrawRealizeBass_any _ n0 _ hn h).mono ?_; rintro e wd ⟨f, vb, vg, bs, gs, hf, hbs, hl1, hl2, hgs, rfl, hsb, hsg, hb0⟩)
    have HT := hid (ht.below hb0)
    have HB0 := hid hb0
    have hO := Own.start wd
    have hF := True.intro
    have f64 : r64 f := by unfold r64; omega
    have b64 : ∀ x ∈ bs, p64s x := fun x hx => ba64B (hbs x hx)
    have g64 : ∀ g ∈ gs, r64 g := fun g hg => by have := hgs g hg; unfold r64; omega
    obtain ⟨ll, hll⟩ : ∃ ll, rzL f bs gs = ll := ⟨_, rfl⟩
    obtain ⟨ok, hok⟩ : ∃ b, rzB f bs gs = b := ⟨_, rfl⟩
    have HI := hid (fun W (hW : Below wd.heap.size wd W) => by
      have := (hI.to hb0) f vb vg bs gs W hW f64 (hsb.below hW) (hsg.below hW) (by omega) (by omega) b64 g64
      rwa [hll, hok] at this)
    have HS := hid (fun W (hW : Below wd.heap.size wd W) => by
      have := (hS.to hb0) f vb vg bs gs W hW f64 (hsb.below hW) (hsg.below hW) (by omega) (by omega) b64 g64
      rwa [hll, hok] at this)
    obtain ⟨Ab, cb, rfl, _, _⟩ := hsb.open
    obtain ⟨Ag, cg, rfl, _, _⟩ := hsg.open
    cases ok
    · have hnil := rzB_no hok
      obtain rfl : ll = [] := hll.symm.trans hnil
      clear hn h ht hI hS hb0 hsb hsg hbs hgs f64 b64 g64 hll hok hnil hf hl1 hl2
      go_wp2_with fail
      (go_at_call 18; apply own_at hO; (repeat (first | (with_reducible exact hO) | (with_reducible apply Own.alloc) | (with_reducible apply Own.drew) | ((with_reducible apply Own.set_at); (focus (show _ ≤ _; omega))))); have hG := hF; clear hF; clear hO; intro hO; clear hG; refine own_call_stkB hO (fun hB => HI.out _ hB) ?_; clear hO; intro v1 es1 w1 hE1 hO; have hF := hO; (try simp only [Own, Item.Holds, apartI, CellsAt, Nat.reduceAdd, Nat.zero_add, List.mem_cons, List.not_mem_nil, or_false, forall_eq_or_imp, forall_eq, ne_eq, false_imp_iff, implies_true, and_true] at hF))
      obtain ⟨A1, c1, hv1, _, _⟩ := (stkR_own13B hE1 hO).open
      subst hv1
      replace hO := hO.sub (List.nil_sublist _)
      clear hF hE1
      have hF := hO; (try simp only [Own, Item.Holds, apartI, CellsAt, Nat.reduceAdd, Nat.zero_add, List.mem_cons, List.not_mem_nil, or_false, forall_eq_or_imp, forall_eq, ne_eq, false_imp_iff, implies_true, and_true] at hF)
      go_wp2_with fail
      (go_at_call 19; apply own_at hO; (repeat (first | (with_reducible exact hO) | (with_reducible apply Own.alloc) | (with_reducible apply Own.drew) | ((with_reducible apply Own.set_at); (focus (show _ ≤ _; omega))))); have hG := hF; clear hF; clear hO; intro hO; clear hG; refine own_call_stkB hO (fun hB => HS.out _ hB) ?_; clear hO; intro v2 es2 w1 hE2 hO; have hF := hO; (try simp only [Own, Item.Holds, apartI, CellsAt, Nat.reduceAdd, Nat.zero_add, List.mem_cons, List.not_mem_nil, or_false, forall_eq_or_imp, forall_eq, ne_eq, false_imp_iff, implies_true, and_true] at hF))
      obtain ⟨A2, c2, hv2, _, _⟩ := (stkR_own13B hE2 hO).open
      subst hv2
      replace hO := hO.sub (List.nil_sublist _)
      clear hF hE2
      have hF := hO; (try simp only [Own, Item.Holds, apartI, CellsAt, Nat.reduceAdd, Nat.zero_add, List.mem_cons, List.not_mem_nil, or_false, forall_eq_or_imp, forall_eq, ne_eq, false_imp_iff, implies_true, and_true] at hF)
      go_wp2_with (go_at_call 14; apply own_at hO; (repeat (first | (with_reducible exact hO) | (with_reducible apply Own.alloc) | (with_reducible apply Own.drew) | ((with_reducible apply Own.set_at); (focus (show _ ≤ _; omega))))); have hG := hF; clear hF; clear hO; intro hO; refine own_call hO (fun hB => alive_any _ (HT.out.below hB)) ?_; clear hO; intro w1 hO; (try simp only [World.size_alloc1, World.size_drew, Nat.reduceAdd] at hO); (try simp only [upd, updI, List.map_cons, List.map_nil, eq_self, if_true, if_false, reduceIte, Nat.add_eq_left, Nat.left_eq_add, Nat.reduceEqDiff, List.set_cons_zero, List.set_cons_succ, hG] at hO); clear hG; have hF := hO; (try simp only [Own, Item.Holds, apartI, CellsAt, Nat.reduceAdd, Nat.zero_add, List.mem_cons, List.not_mem_nil, or_false, forall_eq_or_imp, forall_eq, ne_eq, false_imp_iff, implies_true, and_true] at hF))
      go_ret
      exact ⟨rfl, btr HB0.out (Own.base (by first | exact hO | (repeat (first | (with_reducible exact hO) | (with_reducible apply Own.alloc) | (with_reducible apply Own.drew) | ((with_reducible apply Own.set_at); (focus (show _ ≤ _; omega)))))))⟩
    · have hsome := rzB_yes hok
      rw [hll] at hsome
      obtain ⟨⟨k1, k2, k3, k4'⟩, hlen, hpa, hrf, hmem⟩ := rz_right hsome
      obtain ⟨s0, s, h1z, hs0, l0, l4, hlx⟩ := rz_one hsome (fun x hx => (hbs x hx).1)
      have hv0 : vo4 s0 = true := by
        obtain ⟨_, _, _, _, hm1⟩ := rz_right h1z
        obtain ⟨x, g, _, _, hm⟩ := hm1 0 s0 rfl
        exact (st_zero (sk_is hm).2.2.2.1).1
      have hv1 : vo4 s = true := by
        obtain ⟨x, g, _, _, hm⟩ := hmem 0 s hs0
        exact (st_zero (sk_is hm).2.2.2.1).1
      have HLX := hid hlx
      have HVV := hid (And.intro hv0 hv1)
      have HS0 := hid hs0
      have HONE := hid (fun va vc W (hW : Below wd.heap.size wd W) (a : SlAt W va 1 3 (pcC (bs.take 1))) (b : SlAt W vc 1 1 (intC (gs.take 1))) => by
        have e1 : (bs.take 1).length = 1 := by rw [List.length_take]; omega
        have e2 : (gs.take 1).length = 1 := by rw [List.length_take]; omega
        have e3 : rzL f (bs.take 1) (gs.take 1) = [s0] := by unfold rzL; rw [h1z]; rfl
        have e4 : rzB f (bs.take 1) (gs.take 1) = true := by unfold rzB; rw [h1z]; rfl
        have := (hI.to hb0) f va vc (bs.take 1) (gs.take 1) W hW f64 (by rw [e1]; exact a) (by rw [e2]; exact b) (by omega) (by omega) (fun x hx => b64 x (List.mem_of_mem_take hx)) (fun g hg => g64 g (List.mem_of_mem_take hg))
        rwa [e3, e4] at this)
      have HSB := hid hsb
      have HSG := hid hsg
      have HLN := hid hlen
      obtain ⟨n, hnl⟩ : ∃ n, ll.length = n := ⟨_, rfl⟩
      have HN := hid hnl
      have hbn : bs.length = n := hlen.symm.trans hnl
      rw [hbn] at HI HS ⊢
      have hn1 : 1 ≤ n := by omega
      have hn8 : n ≤ 8 := by omega
      have hgn : gs.length = n := k3.trans hbn
      rw [hbn] at HSB
      rw [hgn] at HSG HI HS ⊢
      clear hn h ht hI hS hb0 hsb hsg hbs hgs f64 b64 g64 hll hok hsome hf hl1 hl2 k1 k2 k3 k4' hlen hpa hrf hmem hnl hbn hgn h1z hs0 l0 l4 hlx hv0 hv1
      go_wp2_with fail
      (go_at_call 18; apply own_at hO; (repeat (first | (with_reducible exact hO) | (with_reducible apply Own.alloc) | (with_reducible apply Own.drew) | ((with_reducible apply Own.set_at); (focus (show _ ≤ _; omega))))); have hG := hF; clear hF; clear hO; intro hO; clear hG; refine own_call_stkB hO (fun hB => HI.out _ hB) ?_; clear hO; intro v1 es1 wd1 hE1 hO)
      have HX1 := hid (stkR_own13B hE1 hO)
      have HB1 := hid hO.base
      clear hO hE1
      have hO := Own.start wd1
      have hF := True.intro
      obtain ⟨A1, c1, hv1, _, _⟩ := HX1.out.open
      subst hv1
      rw [HN.out] at HX1 ⊢
      go_wp2_with fail
      (go_at_call 19; apply own_at hO; (repeat (first | (with_reducible exact hO) | (with_reducible apply Own.alloc) | (with_reducible apply Own.drew) | ((with_reducible apply Own.set_at); (focus (show _ ≤ _; omega))))); have hG := hF; clear hF; clear hO; intro hO; clear hG; refine own_call_stkB hO (fun hB => HS.out _ (btr HB1.out hB)) ?_; clear hO; intro v2 es2 wd2 hE2 hO)
      have HY := hid (stkR_own13B hE2 hO)
      have HX := hid (HX1.out.below hO.base)
      have HB2 := hid (btr HB1.out hO.base)
      clear hO hE2 HX1 HB1 HI HS
      have hO := Own.start wd2
      have hF := True.intro
      obtain ⟨A2, c2, hv2, _, hA2⟩ := HY.out.open
      subst hv2
      rw [HN.out] at HY hA2 ⊢
      obtain ⟨A1', c1', hv1', _, hA1⟩ := HX.out.open
      rw [HN.out] at hv1' hA1
      cases hv1'
      go_wp2_with fail
      have HN4 := hid (And.intro (vo4_iff.1 HVV.out.1).2 (vo4_iff.1 HVV.out.2).2)
      obtain ⟨b5, o5, c5, hv5, hc5⟩ : ∃ b5 o5 c5, Value.slice Ab n cb = .slice (some ⟨b5, o5, none⟩) n c5 ∧ n ≤ c5 := by
        rcases HSB.out.2 with ⟨h, h0⟩ | ⟨b5, o5, c5, h1, h2, _⟩
        · omega
        · exact ⟨b5, o5, c5, h1, h2⟩
      cases hv5
      obtain ⟨b6, o6, c6, hv6, hc6⟩ : ∃ b6 o6 c6, Value.slice Ag n cg = .slice (some ⟨b6, o6, none⟩) n c6 ∧ n ≤ c6 := by
        rcases HSG.out.2 with ⟨h, h0⟩ | ⟨b6, o6, c6, h1, h2, _⟩
        · omega
        · exact ⟨b6, o6, c6, h1, h2⟩
      cases hv6
      have g1 : 1 ≤ cb := by omega
      have g2 : (1 : Int) ≤ (cb : Int) := by omega
      have g3 : 1 ≤ cg := by omega
      have g4 : (1 : Int) ≤ (cg : Int) := by omega
      have g5 : (0 : Int) < (n : Int) := by omega
      have g6 : ((n : Int) == 0) = false := by simp; omega
      have g7 : ¬ (n : Int) = 0 := by omega
      have g8 : 0 < n := by omega
      obtain ⟨b1, o1, rfl, _, _, hb1, hc1⟩ := hA1 (by omega)
      obtain ⟨B1, d1, hs1, e1⟩ := hc1 0 s HS0.out
      rw [HN4.out.2] at hs1 e1
      have HS1 := hid hs1
      have HD1 := hid (fun W (hW : Below wd2.heap.size wd2 W) => ((bcell hW).1 b1 (o1 + 0) hb1).trans e1)
      obtain ⟨b7, o7, c7, hv7⟩ : ∃ b7 o7 c7, Value.slice B1 4 d1 = .slice (some ⟨b7, o7, none⟩) 4 c7 := by
        rcases hs1.2 with ⟨h, h0⟩ | ⟨b7, o7, c7, h1, _⟩
        · omega
        · exact ⟨b7, o7, c7, h1⟩
      cases hv7
      clear hc1 hs1 e1 hc5 hc6
      apply own_code hO
      (repeat (first | (with_reducible exact hO) | (with_reducible apply Own.alloc) | (with_reducible apply Own.drew) | ((with_reducible apply Own.set_at); (focus (show _ ≤ _; omega)))))
      have hG := hF; clear hF; clear hO; intro hO
      (try simp only [World.size_alloc1, World.size_drew, Nat.reduceAdd] at hO); (try simp only [upd, updI, List.map_cons, List.map_nil, eq_self, if_true, if_false, reduceIte, Nat.add_eq_left, Nat.left_eq_add, Nat.reduceEqDiff, List.set_cons_zero, List.set_cons_succ, hG] at hO); clear hG
      refine region_own (X := fun _ => True) [] (by kernel_rfl) (hO) (trivial) (by first | exact XStab.true | exact XStab.rd | exact XStab.rdIf) ?_
      clear hO
      refine Sim.sP (i := 0) (d := some 51) (h := ?_)
      refine Sim.sP (i := 1) (d := some 52) (h := ?_)
      refine Sim.sP (i := 2) (d := some 53) (h := ?_)
      refine Sim.sP (i := 3) (d := some 54) (h := ?_)
      refine Sim.sP (i := 4) (d := some 55) (h := ?_)
      refine Sim.one' (i := 5) (oi := { dst := some 56, op := Op.call { callee := Callee.value (Operand.func 18), args := #[Operand.tmp 51, Operand.tmp 53, Operand.tmp 55], argTypes := #[3, 27, 34] }, type := 38, pos := "laws.go:2545", after := #[{ on := 0, ground := Ground.data }, { on := 2, ground := Ground.data }, { on := 4, ground := Ground.data }], guard := none }) (by kernel_rfl) rfl (by rfl) (fun w0 hO hX K hK => ?_)
      have hF := hO; (try simp only [Own, Item.Holds, apartI, CellsAt, Nat.reduceAdd, Nat.zero_add, List.mem_cons, List.not_mem_nil, or_false, forall_eq_or_imp, forall_eq, ne_eq, false_imp_iff, implies_true, and_true] at hF)
      go_simp
      refine (HONE.out _ _ _ (btr HB2.out hO.base) (slAt_take13 (HSB.out.below (btr HB2.out hO.base)) hn1) (slAt_takeN (HSG.out.below (btr HB2.out hO.base)) hn1)).mono ?_
      rintro e wa ⟨v3, es3, rfl, hE3, ho3⟩
      apply hK _ _ _ (fun _ => True)
      · exact hO.joinP ho3
      · exact trivial
      · exact XStab.true
      · first | exact fun _ _ h => ⟨h.stab, h.base⟩ | exact fun h => absurd h (by decide)
      clear ho3
      clear hK K hF hO
      try simp only [Act.put, List.setIfInBounds_toArray, List.set_cons_zero, List.set_cons_succ]
      refine Sim.sP (i := 6) (d := some 50) (h := ?_)
      refine Sim.sP (i := 7) (d := some 57) (h := ?_)
      refine Sim.sP (i := 8) (d := some 58) (h := ?_)
      refine Sim.sP (i := 9) (d := some 10) (h := ?_)
      refine Sim.sP (i := 10) (d := some 11) (h := ?_)
      refine Sim.done (by kernel_rfl) (fun w1 hO hX => ?_) _
      (try simp only [World.size_alloc1, World.size_drew, Nat.reduceAdd] at hO); (try simp only [upd, updI, List.map_cons, List.map_nil, eq_self, if_true, if_false, reduceIte, Nat.add_eq_left, Nat.left_eq_add, Nat.reduceEqDiff, List.set_cons_zero, List.set_cons_succ] at hO)
      have hF := hO; (try simp only [Own, Item.Holds, apartI, CellsAt, Nat.reduceAdd, Nat.zero_add, List.mem_cons, List.not_mem_nil, or_false, forall_eq_or_imp, forall_eq, ne_eq, false_imp_iff, implies_true, and_true] at hF)
      all_goals
        obtain ⟨V, rfl⟩ : ∃ V, es3 = [(V, s0)] := by
          match es3, hE3 with
          | [], h => simp at h
          | [p], h => simp at h; exact ⟨p.1, by rw [← h]⟩
          | p :: q :: r, h => simp at h
        have hO1 : Own wd2.heap.size (Below wd2.heap.size wd2) _ [.row 27 1 v3 1 [V], .row 24 3 V s0.length (pcC s0)] := hO
        rw [HN4.out.1] at hO1
        clear hO hF hE3
        have hO := hO1
        clear hO1
        obtain ⟨q4, c4, hV, _, _⟩ := hO.2.row_open (by omega)
        subst hV
        obtain ⟨q3, c3, hv3, _, _⟩ := hO.row_open (by omega)
        subst hv3
        have e0 := hO.row_cell (i := 0) (u := .slice (some ⟨q4, 0, none⟩) 4 c4) rfl
        have e1 := HD1.out _ hO.base
        simp at e1
        have hF := hO; (try simp only [Own, Item.Holds, apartI, CellsAt, Nat.reduceAdd, Nat.zero_add, List.mem_cons, List.not_mem_nil, or_false, forall_eq_or_imp, forall_eq, ne_eq, false_imp_iff, implies_true, and_true] at hF)
        go_wp2_with fail
        go_loopw [12] (fun u wr => ∃ t : Nat, 1 ≤ t ∧ t ≤ 4 ∧ u = .int .i64 t ∧ Hid (∀ i, 1 ≤ i → i < t → k4 s i = k4 s0 i) ∧ Own wd2.heap.size (Below wd2.heap.size wd2) wr [.row 27 1 (.slice (some ⟨q3, 0, none⟩) 1 c3) 1 [.slice (some ⟨q4, 0, none⟩) 4 c4], .row 24 3 (.slice (some ⟨q4, 0, none⟩) 4 c4) 4 (pcC s0)]) (fun u _ => 4 - (intOf u).toNat)
        case atStart => exact ⟨1, by omega, by omega, rfl, fun i h1 h2 => by omega, hO⟩
        case round =>
          clear hO hF e0 e1
          obtain ⟨t, t1, t4, rfl, heq, hO⟩ := hrel
          have hF := hO; (try simp only [Own, Item.Holds, apartI, CellsAt, Nat.reduceAdd, Nat.zero_add, List.mem_cons, List.not_mem_nil, or_false, forall_eq_or_imp, forall_eq, ne_eq, false_imp_iff, implies_true, and_true] at hF)
          by_cases he : t = 4
          · subst he
            go_wp2_with fail
            go_ret
            exact ⟨rfl, btr HB0.out (btr HB2.out (Own.base (by first | exact hO | (repeat (first | (with_reducible exact hO) | (with_reducible apply Own.alloc) | (with_reducible apply Own.drew) | ((with_reducible apply Own.set_at); (focus (show _ ≤ _; omega))))))))⟩
          · have tl : t < 4 := by omega
            have tl2 : (t : Int) < 4 := by omega
            have t0 : (0 : Int) ≤ (t : Int) := by omega
            obtain ⟨y, hy⟩ : ∃ y, s[t]? = some y := ⟨_, List.getElem?_eq_getElem (by have := HN4.out.2; omega)⟩
            obtain ⟨x, hx⟩ : ∃ y, s0[t]? = some y := ⟨_, List.getElem?_eq_getElem (by have := HN4.out.1; omega)⟩
            obtain ⟨z1, hz1⟩ : ∃ z, k4 s t = z := ⟨_, rfl⟩
            obtain ⟨z2, hz2⟩ : ∃ z, k4 s0 t = z := ⟨_, rfl⟩
            have k1 := k4_bd HVV.out.2 tl
            have k2 := k4_bd HVV.out.1 tl
            rw [hz1] at k1
            rw [hz2] at k2
            have HK1 := hid (fun W (hW : Below wd2.heap.size wd2 W) => keyI13 hy hz1 W (HT.out.below (btr HB2.out hW)))
            have HK2 := hid (fun W (hW : Below wd2.heap.size wd2 W) => keyI13 hx hz2 W (HT.out.below (btr HB2.out hW)))
            have HYX := hid (And.intro hy hx)
            have HST := hid (fun hne => lx_step HLX.out t1 tl heq.out hne)
            rw [hz1, hz2] at HST
            obtain ⟨d, hd⟩ : ∃ d, z1 - z2 = d := ⟨_, rfl⟩
            have wd9 : IntKind.i64.wrap (z1 - z2) = d := by rw [hd]; exact IntWalk.i64_in _ (by omega)
            by_cases hne : z1 = z2
            · have hd0 : d = 0 := by omega
              have HU := hid (show ∀ i, 1 ≤ i → i < t + 1 → k4 s i = k4 s0 i from fun i h1 h2 => by
                rcases (show i < t ∨ i = t by omega) with h | rfl
                · exact heq.out i h1 h
                · rw [hz1, hz2, hne])
              rw [hd0] at wd9
              clear he hy hx hz1 hz2 hd hd0 hne
              go_wp2_with fail
              apply own_code hO
              (repeat (first | (with_reducible exact hO) | (with_reducible apply Own.alloc) | (with_reducible apply Own.drew) | ((with_reducible apply Own.set_at); (focus (show _ ≤ _; omega)))))
              have hG := hF; clear hF; clear hO; intro hO
              (try simp only [World.size_alloc1, World.size_drew, Nat.reduceAdd] at hO); (try simp only [upd, updI, List.map_cons, List.map_nil, eq_self, if_true, if_false, reduceIte, Nat.add_eq_left, Nat.left_eq_add, Nat.reduceEqDiff, List.set_cons_zero, List.set_cons_succ, hG] at hO); clear hG
              refine region_own (X := fun _ => True) [] (by kernel_rfl) (hO) (trivial) (by first | exact XStab.true | exact XStab.rd | exact XStab.rdIf) ?_
              clear hO
              refine Sim.sP (i := 0) (d := some 89) (h := ?_)
              refine Sim.sP (i := 1) (d := some 90) (h := ?_)
              refine Sim.sO (i := 2) (d := some 91) (v := ?_) (hy := ?_) (h := ?_)
              rotate_left
              · first | refine Or.inl ⟨by rfl, fun w hO => ?_⟩ | (refine Or.inr ⟨by rfl, ?_⟩; with_reducible rfl)
                first | done | (have hF := hO; (try simp only [Own, Item.Holds, apartI, CellsAt, Nat.reduceAdd, Nat.zero_add, List.mem_cons, List.not_mem_nil, or_false, forall_eq_or_imp, forall_eq, ne_eq, false_imp_iff, implies_true, and_true] at hF); ((have e0 := hO.row_cell (i := 0) (u := .slice (some ⟨q4, 0, none⟩) 4 c4) rfl; have e1 := HD1.out _ hO.base; simp at e1; have ⟨d0, d1, d2⟩ := ptAt (HS1.out.below hO.base) HYX.out.1; have d3 := hO.2.row_cell (pcC_at HYX.out.2).1; have d4 := hO.2.row_cell (pcC_at HYX.out.2).2.1; have d5 := hO.2.row_cell (pcC_at HYX.out.2).2.2)); refine Out.same ?_; go_simp; all_goals with_reducible rfl)
              refine Sim.sP (i := 3) (d := some 92) (h := ?_)
              refine Sim.sP (i := 4) (d := some 93) (h := ?_)
              refine Sim.sO (i := 5) (d := some 94) (v := ?_) (hy := ?_) (h := ?_)
              rotate_left
              · first | refine Or.inl ⟨by rfl, fun w hO => ?_⟩ | (refine Or.inr ⟨by rfl, ?_⟩; with_reducible rfl)
                first | done | (have hF := hO; (try simp only [Own, Item.Holds, apartI, CellsAt, Nat.reduceAdd, Nat.zero_add, List.mem_cons, List.not_mem_nil, or_false, forall_eq_or_imp, forall_eq, ne_eq, false_imp_iff, implies_true, and_true] at hF); ((have e0 := hO.row_cell (i := 0) (u := .slice (some ⟨q4, 0, none⟩) 4 c4) rfl; have e1 := HD1.out _ hO.base; simp at e1; have ⟨d0, d1, d2⟩ := ptAt (HS1.out.below hO.base) HYX.out.1; have d3 := hO.2.row_cell (pcC_at HYX.out.2).1; have d4 := hO.2.row_cell (pcC_at HYX.out.2).2.1; have d5 := hO.2.row_cell (pcC_at HYX.out.2).2.2)); refine Out.same ?_; go_simp; all_goals with_reducible rfl)
              refine Sim.sO (i := 6) (d := some 95) (v := ?_) (hy := ?_) (h := ?_)
              rotate_left
              · first | refine Or.inl ⟨by rfl, fun w hO => ?_⟩ | (refine Or.inr ⟨by rfl, ?_⟩; with_reducible rfl)
                first | done | (refine Out.call (f := 24) (args := ?_) ?_ ?_; rotate_left; (focus (go_simp; all_goals with_reducible rfl)); exact HK1.out _ hO.base)
              refine Sim.sP (i := 7) (d := some 96) (h := ?_)
              refine Sim.sP (i := 8) (d := some 97) (h := ?_)
              refine Sim.sO (i := 9) (d := some 98) (v := ?_) (hy := ?_) (h := ?_)
              rotate_left
              · first | refine Or.inl ⟨by rfl, fun w hO => ?_⟩ | (refine Or.inr ⟨by rfl, ?_⟩; with_reducible rfl)
                first | done | (have hF := hO; (try simp only [Own, Item.Holds, apartI, CellsAt, Nat.reduceAdd, Nat.zero_add, List.mem_cons, List.not_mem_nil, or_false, forall_eq_or_imp, forall_eq, ne_eq, false_imp_iff, implies_true, and_true] at hF); ((have e0 := hO.row_cell (i := 0) (u := .slice (some ⟨q4, 0, none⟩) 4 c4) rfl; have e1 := HD1.out _ hO.base; simp at e1; have ⟨d0, d1, d2⟩ := ptAt (HS1.out.below hO.base) HYX.out.1; have d3 := hO.2.row_cell (pcC_at HYX.out.2).1; have d4 := hO.2.row_cell (pcC_at HYX.out.2).2.1; have d5 := hO.2.row_cell (pcC_at HYX.out.2).2.2)); refine Out.same ?_; go_simp; all_goals with_reducible rfl)
              refine Sim.sP (i := 10) (d := some 99) (h := ?_)
              refine Sim.sP (i := 11) (d := some 100) (h := ?_)
              refine Sim.sO (i := 12) (d := some 101) (v := ?_) (hy := ?_) (h := ?_)
              rotate_left
              · first | refine Or.inl ⟨by rfl, fun w hO => ?_⟩ | (refine Or.inr ⟨by rfl, ?_⟩; with_reducible rfl)
                first | done | (have hF := hO; (try simp only [Own, Item.Holds, apartI, CellsAt, Nat.reduceAdd, Nat.zero_add, List.mem_cons, List.not_mem_nil, or_false, forall_eq_or_imp, forall_eq, ne_eq, false_imp_iff, implies_true, and_true] at hF); ((have e0 := hO.row_cell (i := 0) (u := .slice (some ⟨q4, 0, none⟩) 4 c4) rfl; have e1 := HD1.out _ hO.base; simp at e1; have ⟨d0, d1, d2⟩ := ptAt (HS1.out.below hO.base) HYX.out.1; have d3 := hO.2.row_cell (pcC_at HYX.out.2).1; have d4 := hO.2.row_cell (pcC_at HYX.out.2).2.1; have d5 := hO.2.row_cell (pcC_at HYX.out.2).2.2)); refine Out.same ?_; go_simp; all_goals with_reducible rfl)
              refine Sim.sO (i := 13) (d := some 102) (v := ?_) (hy := ?_) (h := ?_)
              rotate_left
              · first | refine Or.inl ⟨by rfl, fun w hO => ?_⟩ | (refine Or.inr ⟨by rfl, ?_⟩; with_reducible rfl)
                first | done | (refine Out.call (f := 24) (args := ?_) ?_ ?_; rotate_left; (focus (go_simp; all_goals with_reducible rfl)); exact HK2.out _ hO.base)
              refine Sim.sP (i := 14) (d := some 103) (h := ?_)
              refine Sim.sP (i := 15) (d := some 13) (h := ?_)
              refine Sim.done (by kernel_rfl) (fun w1 hO hX => ?_) _
              (try simp only [World.size_alloc1, World.size_drew, Nat.reduceAdd] at hO); (try simp only [upd, updI, List.map_cons, List.map_nil, eq_self, if_true, if_false, reduceIte, Nat.add_eq_left, Nat.left_eq_add, Nat.reduceEqDiff, List.set_cons_zero, List.set_cons_succ] at hO)
              have hF := hO; (try simp only [Own, Item.Holds, apartI, CellsAt, Nat.reduceAdd, Nat.zero_add, List.mem_cons, List.not_mem_nil, or_false, forall_eq_or_imp, forall_eq, ne_eq, false_imp_iff, implies_true, and_true] at hF)
              all_goals
                go_wp2
                go_roundw
                case rel => exact ⟨t + 1, by omega, by omega, by go_num, HU.out, hO⟩
                case measure => simp [intOf]; omega
            · have hd1 : 0 < d := by have := HST.out hne; omega
              have hd2 : (d == 0) = false := by simp; omega
              have hd3 : (d != 0) = true := by simp; omega
              have hd4 : ¬ d = 0 := by omega
              clear he hy hx hz1 hz2 hd hne
              go_wp2_with fail
              apply own_code hO
              (repeat (first | (with_reducible exact hO) | (with_reducible apply Own.alloc) | (with_reducible apply Own.drew) | ((with_reducible apply Own.set_at); (focus (show _ ≤ _; omega)))))
              have hG := hF; clear hF; clear hO; intro hO
              (try simp only [World.size_alloc1, World.size_drew, Nat.reduceAdd] at hO); (try simp only [upd, updI, List.map_cons, List.map_nil, eq_self, if_true, if_false, reduceIte, Nat.add_eq_left, Nat.left_eq_add, Nat.reduceEqDiff, List.set_cons_zero, List.set_cons_succ, hG] at hO); clear hG
              refine region_own (X := fun _ => True) [] (by kernel_rfl) (hO) (trivial) (by first | exact XStab.true | exact XStab.rd | exact XStab.rdIf) ?_
              clear hO
              refine Sim.sP (i := 0) (d := some 89) (h := ?_)
              refine Sim.sP (i := 1) (d := some 90) (h := ?_)
              refine Sim.sO (i := 2) (d := some 91) (v := ?_) (hy := ?_) (h := ?_)
              rotate_left
              · first | refine Or.inl ⟨by rfl, fun w hO => ?_⟩ | (refine Or.inr ⟨by rfl, ?_⟩; with_reducible rfl)
                first | done | (have hF := hO; (try simp only [Own, Item.Holds, apartI, CellsAt, Nat.reduceAdd, Nat.zero_add, List.mem_cons, List.not_mem_nil, or_false, forall_eq_or_imp, forall_eq, ne_eq, false_imp_iff, implies_true, and_true] at hF); ((have e0 := hO.row_cell (i := 0) (u := .slice (some ⟨q4, 0, none⟩) 4 c4) rfl; have e1 := HD1.out _ hO.base; simp at e1; have ⟨d0, d1, d2⟩ := ptAt (HS1.out.below hO.base) HYX.out.1; have d3 := hO.2.row_cell (pcC_at HYX.out.2).1; have d4 := hO.2.row_cell (pcC_at HYX.out.2).2.1; have d5 := hO.2.row_cell (pcC_at HYX.out.2).2.2)); refine Out.same ?_; go_simp; all_goals with_reducible rfl)
              refine Sim.sP (i := 3) (d := some 92) (h := ?_)
              refine Sim.sP (i := 4) (d := some 93) (h := ?_)
              refine Sim.sO (i := 5) (d := some 94) (v := ?_) (hy := ?_) (h := ?_)
              rotate_left
              · first | refine Or.inl ⟨by rfl, fun w hO => ?_⟩ | (refine Or.inr ⟨by rfl, ?_⟩; with_reducible rfl)
                first | done | (have hF := hO; (try simp only [Own, Item.Holds, apartI, CellsAt, Nat.reduceAdd, Nat.zero_add, List.mem_cons, List.not_mem_nil, or_false, forall_eq_or_imp, forall_eq, ne_eq, false_imp_iff, implies_true, and_true] at hF); ((have e0 := hO.row_cell (i := 0) (u := .slice (some ⟨q4, 0, none⟩) 4 c4) rfl; have e1 := HD1.out _ hO.base; simp at e1; have ⟨d0, d1, d2⟩ := ptAt (HS1.out.below hO.base) HYX.out.1; have d3 := hO.2.row_cell (pcC_at HYX.out.2).1; have d4 := hO.2.row_cell (pcC_at HYX.out.2).2.1; have d5 := hO.2.row_cell (pcC_at HYX.out.2).2.2)); refine Out.same ?_; go_simp; all_goals with_reducible rfl)
              refine Sim.sO (i := 6) (d := some 95) (v := ?_) (hy := ?_) (h := ?_)
              rotate_left
              · first | refine Or.inl ⟨by rfl, fun w hO => ?_⟩ | (refine Or.inr ⟨by rfl, ?_⟩; with_reducible rfl)
                first | done | (refine Out.call (f := 24) (args := ?_) ?_ ?_; rotate_left; (focus (go_simp; all_goals with_reducible rfl)); exact HK1.out _ hO.base)
              refine Sim.sP (i := 7) (d := some 96) (h := ?_)
              refine Sim.sP (i := 8) (d := some 97) (h := ?_)
              refine Sim.sO (i := 9) (d := some 98) (v := ?_) (hy := ?_) (h := ?_)
              rotate_left
              · first | refine Or.inl ⟨by rfl, fun w hO => ?_⟩ | (refine Or.inr ⟨by rfl, ?_⟩; with_reducible rfl)
                first | done | (have hF := hO; (try simp only [Own, Item.Holds, apartI, CellsAt, Nat.reduceAdd, Nat.zero_add, List.mem_cons, List.not_mem_nil, or_false, forall_eq_or_imp, forall_eq, ne_eq, false_imp_iff, implies_true, and_true] at hF); ((have e0 := hO.row_cell (i := 0) (u := .slice (some ⟨q4, 0, none⟩) 4 c4) rfl; have e1 := HD1.out _ hO.base; simp at e1; have ⟨d0, d1, d2⟩ := ptAt (HS1.out.below hO.base) HYX.out.1; have d3 := hO.2.row_cell (pcC_at HYX.out.2).1; have d4 := hO.2.row_cell (pcC_at HYX.out.2).2.1; have d5 := hO.2.row_cell (pcC_at HYX.out.2).2.2)); refine Out.same ?_; go_simp; all_goals with_reducible rfl)
              refine Sim.sP (i := 10) (d := some 99) (h := ?_)
              refine Sim.sP (i := 11) (d := some 100) (h := ?_)
              refine Sim.sO (i := 12) (d := some 101) (v := ?_) (hy := ?_) (h := ?_)
              rotate_left
              · first | refine Or.inl ⟨by rfl, fun w hO => ?_⟩ | (refine Or.inr ⟨by rfl, ?_⟩; with_reducible rfl)
                first | done | (have hF := hO; (try simp only [Own, Item.Holds, apartI, CellsAt, Nat.reduceAdd, Nat.zero_add, List.mem_cons, List.not_mem_nil, or_false, forall_eq_or_imp, forall_eq, ne_eq, false_imp_iff, implies_true, and_true] at hF); ((have e0 := hO.row_cell (i := 0) (u := .slice (some ⟨q4, 0, none⟩) 4 c4) rfl; have e1 := HD1.out _ hO.base; simp at e1; have ⟨d0, d1, d2⟩ := ptAt (HS1.out.below hO.base) HYX.out.1; have d3 := hO.2.row_cell (pcC_at HYX.out.2).1; have d4 := hO.2.row_cell (pcC_at HYX.out.2).2.1; have d5 := hO.2.row_cell (pcC_at HYX.out.2).2.2)); refine Out.same ?_; go_simp; all_goals with_reducible rfl)
              refine Sim.sO (i := 13) (d := some 102) (v := ?_) (hy := ?_) (h := ?_)
              rotate_left
              · first | refine Or.inl ⟨by rfl, fun w hO => ?_⟩ | (refine Or.inr ⟨by rfl, ?_⟩; with_reducible rfl)
                first | done | (refine Out.call (f := 24) (args := ?_) ?_ ?_; rotate_left; (focus (go_simp; all_goals with_reducible rfl)); exact HK2.out _ hO.base)
              refine Sim.sP (i := 14) (d := some 103) (h := ?_)
              refine Sim.sP (i := 15) (d := some 13) (h := ?_)
              refine Sim.done (by kernel_rfl) (fun w1 hO hX => ?_) _
              (try simp only [World.size_alloc1, World.size_drew, Nat.reduceAdd] at hO); (try simp only [upd, updI, List.map_cons, List.map_nil, eq_self, if_true, if_false, reduceIte, Nat.add_eq_left, Nat.left_eq_add, Nat.reduceEqDiff, List.set_cons_zero, List.set_cons_succ] at hO)
              have hF := hO; (try simp only [Own, Item.Holds, apartI, CellsAt, Nat.reduceAdd, Nat.zero_add, List.mem_cons, List.not_mem_nil, or_false, forall_eq_or_imp, forall_eq, ne_eq, false_imp_iff, implies_true, and_true] at hF)
              all_goals
                go_wp2
                go_ret
                exact ⟨rfl, btr HB0.out (btr HB2.out (Own.base (by first | exact hO | (repeat (first | (with_reducible exact hO) | (with_reducible apply Own.alloc) | (with_reducible apply Own.drew) | ((with_reducible apply Own.set_at); (focus (show _ ≤ _; omega))))))))⟩
  · have hl' : 1048576 < (n0 : Int) := by omega
    go_enter Tryd.func6, Tryd.ntmps6
    go_wp2
    go_ret
    exact ⟨rfl, Below.refl _ _⟩
end Go.Proofs.YtfiodejbeeblgaaDoor
