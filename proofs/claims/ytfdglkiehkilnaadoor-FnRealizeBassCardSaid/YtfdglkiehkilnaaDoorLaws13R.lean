/- The walk of FnRealizeBass, from contracts. -/
import Derived.Test.YtfdglkiehkilnaaDoorDraws13B
import Derived.Test.YtfdglkiehkilnaaDoorCon13
import Derived.Test.YtfdglkiehkilnaaDoorLawsPitch
import Derived.Test.YtfdglkiehkilnaaDoorDrawBase
import Derived.Test.YtfdglkiehkilnaaDoorRegionD
namespace Go.Proofs.YtfdglkiehkilnaaDoor
set_option linter.unusedSimpArgs false
set_option linter.unusedVariables false
set_option maxRecDepth 8000
open Go.RowKit

theorem samePS13R {va vb : Value} {m : Nat} {t : List Pt} {W : World} (h1 : SlAt W va m 3 (pcC t)) (h2 : SlAt W vb m 3 (pcC t)) :
    Calls Tryd.prog 43 #[va, vb] W fun e w' => e = .returned (.bool true) ∧ Below W.heap.size W w' :=
  samePS_same va vb m (pcC t) W h1 h2 (pcC_int t)
theorem stkR_own13R {n : Nat} {B : World → Prop} {w : World} {v : Value} {es : List (Value × List Pt)} {ll : List (List Pt)} {L : List Item} (hE : lsO es = ll) (h : Own n B w (.row 23 1 v es.length (vsO es) :: (rwP es ++ L))) : StkR w v ll := hE ▸ StkR.of_own h
theorem ba64 {f : Int} {x : Pt} (h : baOk f x) : p64s x := p64_pv h.2

set_option maxRecDepth 20000 in
set_option maxHeartbeats 8000000 in
theorem fnRealizeBass_of (v : Value) (n0 : Nat) (w : World) (hn : n0 ≤ maxLen) (h : BytesB w w.heap.size v n0) (ht : TabH w)
    (hS : CRz 42 w) (hI : CRz 41 w) (hP : CPa 32 w) (hR : CRf 44 w) :
    Calls Tryd.prog 11 #[v] w fun e w' => e = .returned (.bool true) ∧ Below w.heap.size w w' := by
  obtain ⟨a0, c0, rfl⟩ := h.form
  have hn' : (n0 : Int) ≤ 9223372036854775807 := by unfold maxLen at hn; omega
  by_cases hl : n0 ≤ 1048576
  · have hl' : (n0 : Int) ≤ 1048576 := by omega
    go_enter Tryd.func11, Tryd.ntmps11
    go_wp2_with (go_at_call 40; refine (DrawRealizeBass_any _ n0 _ hn h).mono ?_; rintro e wd ⟨f, vb, vg, bs, gs, hf, hbs, hl1, hl2, hgs, rfl, hsb, hsg, hb0⟩)
    have HT := hid (ht.below hb0)
    have HB0 := hid hb0
    have hO := Own.start wd
    have hF := True.intro
    have f64 : r64 f := by unfold r64; omega
    have b64 : ∀ x ∈ bs, p64s x := fun x hx => ba64 (hbs x hx)
    have g64 : ∀ g ∈ gs, r64 g := fun g hg => by have := hgs g hg; unfold r64; omega
    obtain ⟨ll, hll⟩ : ∃ ll, rzL f bs gs = ll := ⟨_, rfl⟩
    obtain ⟨ok, hok⟩ : ∃ b, rzB f bs gs = b := ⟨_, rfl⟩
    have HI := hid (fun W (hW : Below wd.heap.size wd W) => by
      have := (hI.to hb0) f vb vg bs gs W hW f64 (hsb.below hW) (hsg.below hW) (by omega) (by omega) b64 g64
      rwa [hll, hok] at this)
    have HS := hid (fun W (hW : Below wd.heap.size wd W) => by
      have := (hS.to hb0) f vb vg bs gs W hW f64 (hsb.below hW) (hsg.below hW) (by omega) (by omega) b64 g64
      rwa [hll, hok] at this)
    obtain ⟨Ab, cb, rfl, _, _⟩ := hsb.open
    obtain ⟨Ag, cg, rfl, _, _⟩ := hsg.open
    cases ok
    · have hnil := rzB_no hok
      obtain rfl : ll = [] := hll.symm.trans hnil
      clear hn h ht hI hS hP hR hb0 hsb hsg hbs hgs f64 b64 g64 hll hok hnil hf hl1 hl2
      go_wp2_with fail
      (go_at_call 41; apply own_at hO; (repeat (first | (with_reducible exact hO) | (with_reducible apply Own.alloc) | (with_reducible apply Own.drew) | ((with_reducible apply Own.set_at); (focus (show _ ≤ _; omega))))); have hG := hF; clear hF; clear hO; intro hO; clear hG; refine own_call_stkB hO (fun hB => HI.out _ hB) ?_; clear hO; intro v1 es1 w1 hE1 hO; have hF := hO; (try simp only [Own, Item.Holds, apartI, CellsAt, Nat.reduceAdd, Nat.zero_add, List.mem_cons, List.not_mem_nil, or_false, forall_eq_or_imp, forall_eq, ne_eq, false_imp_iff, implies_true, and_true] at hF))
      obtain ⟨A1, c1, hv1, _, _⟩ := (stkR_own13R hE1 hO).open
      subst hv1
      replace hO := hO.sub (List.nil_sublist _)
      clear hF hE1
      have hF := hO; (try simp only [Own, Item.Holds, apartI, CellsAt, Nat.reduceAdd, Nat.zero_add, List.mem_cons, List.not_mem_nil, or_false, forall_eq_or_imp, forall_eq, ne_eq, false_imp_iff, implies_true, and_true] at hF)
      go_wp2_with fail
      (go_at_call 42; apply own_at hO; (repeat (first | (with_reducible exact hO) | (with_reducible apply Own.alloc) | (with_reducible apply Own.drew) | ((with_reducible apply Own.set_at); (focus (show _ ≤ _; omega))))); have hG := hF; clear hF; clear hO; intro hO; clear hG; refine own_call_stkB hO (fun hB => HS.out _ hB) ?_; clear hO; intro v2 es2 w1 hE2 hO; have hF := hO; (try simp only [Own, Item.Holds, apartI, CellsAt, Nat.reduceAdd, Nat.zero_add, List.mem_cons, List.not_mem_nil, or_false, forall_eq_or_imp, forall_eq, ne_eq, false_imp_iff, implies_true, and_true] at hF))
      obtain ⟨A2, c2, hv2, _, _⟩ := (stkR_own13R hE2 hO).open
      subst hv2
      replace hO := hO.sub (List.nil_sublist _)
      clear hF hE2
      have hF := hO; (try simp only [Own, Item.Holds, apartI, CellsAt, Nat.reduceAdd, Nat.zero_add, List.mem_cons, List.not_mem_nil, or_false, forall_eq_or_imp, forall_eq, ne_eq, false_imp_iff, implies_true, and_true] at hF)
      go_wp2_with (go_at_call 15; apply own_at hO; (repeat (first | (with_reducible exact hO) | (with_reducible apply Own.alloc) | (with_reducible apply Own.drew) | ((with_reducible apply Own.set_at); (focus (show _ ≤ _; omega))))); have hG := hF; clear hF; clear hO; intro hO; refine own_call hO (fun hB => alive_any _ (HT.out.below hB)) ?_; clear hO; intro w1 hO; (try simp only [World.size_alloc1, World.size_drew, Nat.reduceAdd] at hO); (try simp only [upd, updI, List.map_cons, List.map_nil, eq_self, if_true, if_false, reduceIte, Nat.add_eq_left, Nat.left_eq_add, Nat.reduceEqDiff, List.set_cons_zero, List.set_cons_succ, hG] at hO); clear hG; have hF := hO; (try simp only [Own, Item.Holds, apartI, CellsAt, Nat.reduceAdd, Nat.zero_add, List.mem_cons, List.not_mem_nil, or_false, forall_eq_or_imp, forall_eq, ne_eq, false_imp_iff, implies_true, and_true] at hF))
      go_ret
      exact ⟨rfl, btr HB0.out (Own.base (by first | exact hO | (repeat (first | (with_reducible exact hO) | (with_reducible apply Own.alloc) | (with_reducible apply Own.drew) | ((with_reducible apply Own.set_at); (focus (show _ ≤ _; omega)))))))⟩
    · have hsome := rzB_yes hok
      rw [hll] at hsome
      obtain ⟨⟨k1, k2, k3, k4'⟩, hlen, hpa, hrf, hmem⟩ := rz_right hsome
      have hv : ∀ l ∈ ll, l.length = 4 ∧ ∀ x ∈ l, pvP x = true := fun l hl => by
        obtain ⟨i, hi⟩ := List.getElem?_of_mem hl
        obtain ⟨x, g, _, _, hs⟩ := hmem i l hi
        obtain ⟨_, e2, _, e4, _⟩ := sk_is hs
        exact ⟨e2, (vo4_iff.1 (st_zero e4).1).1⟩
      have l64 : ∀ l ∈ ll, ∀ x ∈ l, p64s x := fun l hl x hx => p64_pv ((hv l hl).2 x hx)
      have hle : ∀ l ∈ ll, l.length ≤ 1048576 := fun l hl => by have := (hv l hl).1; omega
      have HPA := hid (fun va W (hW : Below wd.heap.size wd W) (hs : StkR W va ll) => (hP.to hb0).is (by omega) hle l64 hpa (k := 0) rfl va W hW hs)
      have HRF := hid (fun va W (hW : Below wd.heap.size wd W) (hs : StkR W va ll) => by
        have := (hR.to hb0) f _ _ va bs gs ll W hW f64 (hsb.below hW) (hsg.below hW) hs (by omega) (by omega) (by omega) b64 g64 hle l64
        rwa [hrf] at this)
      have HLN := hid hlen
      obtain ⟨n, hnl⟩ : ∃ n, ll.length = n := ⟨_, rfl⟩
      have HN := hid hnl
      have hbn : bs.length = n := hlen.symm.trans hnl
      rw [hbn] at HI HS HRF ⊢
      have hn1 : 1 ≤ n := by omega
      have hn8 : n ≤ 8 := by omega
      have H4 := hid (fun (l : List Pt) (hl : l ∈ ll) => (hv l hl).1)
      clear hn h ht hI hS hP hR hb0 hsb hsg hbs hgs f64 b64 g64 hll hok hsome hf hl1 hl2 k1 k2 k3 k4' hlen hpa hrf hmem hv l64 hle hnl hbn
      go_wp2_with fail
      (go_at_call 41; apply own_at hO; (repeat (first | (with_reducible exact hO) | (with_reducible apply Own.alloc) | (with_reducible apply Own.drew) | ((with_reducible apply Own.set_at); (focus (show _ ≤ _; omega))))); have hG := hF; clear hF; clear hO; intro hO; clear hG; refine own_call_stkB hO (fun hB => HI.out _ hB) ?_; clear hO; intro v1 es1 wd1 hE1 hO)
      have HX1 := hid (stkR_own13R hE1 hO)
      have HB1 := hid hO.base
      clear hO hE1
      have hO := Own.start wd1
      have hF := True.intro
      obtain ⟨A1, c1, hv1, _, _⟩ := HX1.out.open
      subst hv1
      rw [HN.out] at HX1 ⊢
      go_wp2_with fail
      (go_at_call 42; apply own_at hO; (repeat (first | (with_reducible exact hO) | (with_reducible apply Own.alloc) | (with_reducible apply Own.drew) | ((with_reducible apply Own.set_at); (focus (show _ ≤ _; omega))))); have hG := hF; clear hF; clear hO; intro hO; clear hG; refine own_call_stkB hO (fun hB => HS.out _ (btr HB1.out hB)) ?_; clear hO; intro v2 es2 wd2 hE2 hO)
      have HY := hid (stkR_own13R hE2 hO)
      have HX := hid (HX1.out.below hO.base)
      have HB2 := hid (btr HB1.out hO.base)
      clear hO hE2 HX1 HB1 HI HS
      have hO := Own.start wd2
      have hF := True.intro
      obtain ⟨A2, c2, hv2, _, hA2⟩ := HY.out.open
      subst hv2
      rw [HN.out] at HY hA2 ⊢
      obtain ⟨A1', c1', hv1', _, hA1⟩ := HX.out.open
      rw [HN.out] at hv1' hA1
      cases hv1'
      go_wp2_with fail
      go_loopw [10] (fun t wr => ∃ k : Nat, k ≤ n ∧ t = .int .i64 k ∧ Own wd2.heap.size (Below wd2.heap.size wd2) wr []) (fun t _ => n - (intOf t).toNat)
      case atStart => exact ⟨0, by omega, rfl, hO⟩
      case round =>
        clear hO hF
        obtain ⟨k, hk, rfl, hO⟩ := hrel
        have hF := hO; (try simp only [Own, Item.Holds, apartI, CellsAt, Nat.reduceAdd, Nat.zero_add, List.mem_cons, List.not_mem_nil, or_false, forall_eq_or_imp, forall_eq, ne_eq, false_imp_iff, implies_true, and_true] at hF)
        by_cases he : k = n
        · subst he
          have HPA2 := hid (fun W (hW : Below wd2.heap.size wd2 W) => HPA.out _ W (btr HB2.out hW) (HX.out.below hW))
          have HRF2 := hid (fun W (hW : Below wd2.heap.size wd2 W) => HRF.out _ W (btr HB2.out hW) (HX.out.below hW))
          go_wp2_with (first | ((go_at_call 32; apply own_at hO; (repeat (first | (with_reducible exact hO) | (with_reducible apply Own.alloc) | (with_reducible apply Own.drew) | ((with_reducible apply Own.set_at); (focus (show _ ≤ _; omega))))); have hG := hF; clear hF; clear hO; intro hO; refine own_call_row hO (fun hB => HPA2.out _ hB) ?_; clear hO; intro v w1 hO; (try simp only [World.size_alloc1, World.size_drew, Nat.reduceAdd] at hO); (try simp only [upd, updI, List.map_cons, List.map_nil, eq_self, if_true, if_false, reduceIte, Nat.add_eq_left, Nat.left_eq_add, Nat.reduceEqDiff, List.set_cons_zero, List.set_cons_succ, hG] at hO); clear hG; have hF := hO; (try simp only [Own, Item.Holds, apartI, CellsAt, Nat.reduceAdd, Nat.zero_add, List.mem_cons, List.not_mem_nil, or_false, forall_eq_or_imp, forall_eq, ne_eq, false_imp_iff, implies_true, and_true] at hF)); obtain ⟨A3, c3, hv3⟩ := (SlAt.of_row hO.1.1).form; subst hv3) | (go_at_call 44; apply own_at hO; (repeat (first | (with_reducible exact hO) | (with_reducible apply Own.alloc) | (with_reducible apply Own.drew) | ((with_reducible apply Own.set_at); (focus (show _ ≤ _; omega))))); have hG := hF; clear hF; clear hO; intro hO; refine own_call hO (fun hB => HRF2.out _ hB) ?_; clear hO; intro w1 hO; (try simp only [World.size_alloc1, World.size_drew, Nat.reduceAdd] at hO); (try simp only [upd, updI, List.map_cons, List.map_nil, eq_self, if_true, if_false, reduceIte, Nat.add_eq_left, Nat.left_eq_add, Nat.reduceEqDiff, List.set_cons_zero, List.set_cons_succ, hG] at hO); clear hG; have hF := hO; (try simp only [Own, Item.Holds, apartI, CellsAt, Nat.reduceAdd, Nat.zero_add, List.mem_cons, List.not_mem_nil, or_false, forall_eq_or_imp, forall_eq, ne_eq, false_imp_iff, implies_true, and_true] at hF)))
          go_ret
          exact ⟨rfl, btr HB0.out (btr HB2.out (Own.base (by first | exact hO | (repeat (first | (with_reducible exact hO) | (with_reducible apply Own.alloc) | (with_reducible apply Own.drew) | ((with_reducible apply Own.set_at); (focus (show _ ≤ _; omega))))))))⟩
        · have hkl : k < n := by omega
          have hkl2 : (k : Int) < (n : Int) := by omega
          have hk0 : (0 : Int) ≤ (k : Int) := by omega
          obtain ⟨b1, o1, rfl, _, _, hb1, hc1⟩ := hA1 (by omega)
          obtain ⟨b2, o2, rfl, _, _, hb2, hc2⟩ := hA2 (by omega)
          obtain ⟨l, hl⟩ : ∃ l, ll[k]? = some l := ⟨_, List.getElem?_eq_getElem (by have := HN.out; omega)⟩
          obtain ⟨B1, d1, hs1, e1⟩ := hc1 k l hl
          obtain ⟨B2, d2, hs2, e2⟩ := hc2 k l hl
          have h4 := H4.out l (List.mem_of_getElem? hl)
          rw [h4] at hs1 hs2 e1 e2
          have HD1 := hid (fun W (hW : Below wd2.heap.size wd2 W) => ((bcell hW).1 b1 (o1 + k) hb1).trans e1)
          have HD2 := hid (fun W (hW : Below wd2.heap.size wd2 W) => ((bcell hW).1 b2 (o2 + k) hb2).trans e2)
          have HSP := hid (fun W (hW : Below wd2.heap.size wd2 W) => samePS13R (hs1.below hW) (hs2.below hW))
          clear he hl hc1 hc2 hs1 hs2 e1 e2 h4
          go_wp2_with fail
          apply own_code hO
          (repeat (first | (with_reducible exact hO) | (with_reducible apply Own.alloc) | (with_reducible apply Own.drew) | ((with_reducible apply Own.set_at); (focus (show _ ≤ _; omega)))))
          have hG := hF; clear hF; clear hO; intro hO
          (try simp only [World.size_alloc1, World.size_drew, Nat.reduceAdd] at hO); (try simp only [upd, updI, List.map_cons, List.map_nil, eq_self, if_true, if_false, reduceIte, Nat.add_eq_left, Nat.left_eq_add, Nat.reduceEqDiff, List.set_cons_zero, List.set_cons_succ, hG] at hO); clear hG
          refine region_own (X := fun _ => True) [] (by kernel_rfl) (hO) (trivial) (by first | exact XStab.true | exact XStab.rd | exact XStab.rdIf) ?_
          clear hO
          refine Sim.sP (i := 0) (d := some 58) (h := ?_)
          refine Sim.sP (i := 1) (d := some 59) (h := ?_)
          refine Sim.sP (i := 2) (d := some 60) (h := ?_)
          refine Sim.sO (i := 3) (d := some 61) (v := ?_) (hy := ?_) (h := ?_)
          rotate_left
          · first | refine Or.inl ⟨by rfl, fun w hO => ?_⟩ | (refine Or.inr ⟨by rfl, ?_⟩; with_reducible rfl)
            first | done | (have hF := hO; (try simp only [Own, Item.Holds, apartI, CellsAt, Nat.reduceAdd, Nat.zero_add, List.mem_cons, List.not_mem_nil, or_false, forall_eq_or_imp, forall_eq, ne_eq, false_imp_iff, implies_true, and_true] at hF); ((have e1 := HD1.out _ hO.base; have e2 := HD2.out _ hO.base)); refine Out.same ?_; go_simp; all_goals with_reducible rfl)
          refine Sim.sP (i := 4) (d := some 62) (h := ?_)
          refine Sim.sP (i := 5) (d := some 63) (h := ?_)
          refine Sim.sP (i := 6) (d := some 64) (h := ?_)
          refine Sim.sO (i := 7) (d := some 65) (v := ?_) (hy := ?_) (h := ?_)
          rotate_left
          · first | refine Or.inl ⟨by rfl, fun w hO => ?_⟩ | (refine Or.inr ⟨by rfl, ?_⟩; with_reducible rfl)
            first | done | (have hF := hO; (try simp only [Own, Item.Holds, apartI, CellsAt, Nat.reduceAdd, Nat.zero_add, List.mem_cons, List.not_mem_nil, or_false, forall_eq_or_imp, forall_eq, ne_eq, false_imp_iff, implies_true, and_true] at hF); ((have e1 := HD1.out _ hO.base; have e2 := HD2.out _ hO.base)); refine Out.same ?_; go_simp; all_goals with_reducible rfl)
          refine Sim.sO (i := 8) (d := some 66) (v := ?_) (hy := ?_) (h := ?_)
          rotate_left
          · first | refine Or.inl ⟨by rfl, fun w hO => ?_⟩ | (refine Or.inr ⟨by rfl, ?_⟩; with_reducible rfl)
            first | done | (refine Out.call (f := 43) (args := ?_) ?_ ?_; rotate_left; (focus (go_simp; all_goals with_reducible rfl)); exact HSP.out _ hO.base)
          refine Sim.sP (i := 9) (d := some 67) (h := ?_)
          refine Sim.done (by kernel_rfl) (fun w1 hO hX => ?_) _
          (try simp only [World.size_alloc1, World.size_drew, Nat.reduceAdd] at hO); (try simp only [upd, updI, List.map_cons, List.map_nil, eq_self, if_true, if_false, reduceIte, Nat.add_eq_left, Nat.left_eq_add, Nat.reduceEqDiff, List.set_cons_zero, List.set_cons_succ] at hO)
          have hF := hO; (try simp only [Own, Item.Holds, apartI, CellsAt, Nat.reduceAdd, Nat.zero_add, List.mem_cons, List.not_mem_nil, or_false, forall_eq_or_imp, forall_eq, ne_eq, false_imp_iff, implies_true, and_true] at hF)
          all_goals
            go_wp2_with fail
            go_roundw
            case rel => exact ⟨k + 1, by omega, by go_num, hO⟩
            case measure => simp [intOf]; omega
  · have hl' : 1048576 < (n0 : Int) := by omega
    go_enter Tryd.func11, Tryd.ntmps11
    go_wp2
    go_ret
    exact ⟨rfl, Below.refl _ _⟩
end Go.Proofs.YtfdglkiehkilnaaDoor
