/- The walk of FnExactRealizeBass, from what both functions answer. -/
import Derived.Test.YtfiodejbeeblgaaDoorCon13
import Derived.Test.YtfiodejbeeblgaaDoorMarks13
import Derived.Test.YtfiodejbeeblgaaDoorIntC
import Derived.Test.YtfiodejbeeblgaaDoorLawsX10
namespace Go.Proofs.YtfiodejbeeblgaaDoor
set_option linter.unusedSimpArgs false
set_option linter.unusedVariables false
set_option maxRecDepth 8000
open Go.RowKit

theorem ptN_small : ∀ {ll : List (List Pt)} {m : Nat}, (∀ l ∈ ll, l.length ≤ m) → ptN ll ≤ ll.length * m
  | [], _, _ => by simp [ptN]
  | l :: ll, m, h => by
    rw [ptN, List.length_cons, Nat.add_mul]
    have := h l (by simp)
    have := ptN_small (ll := ll) (m := m) fun l hl => h l (by simp [hl])
    omega
theorem rzL_small (f : Int) (bs : List Pt) (gs : List Int) : (rzL f bs gs).length ≤ 8 ∧ ptN (rzL f bs gs) ≤ 32 := by
  cases h : rzZ f bs gs with
  | none => unfold rzL; rw [h]; exact ⟨by simp, by simp [ptN]⟩
  | some out =>
    obtain ⟨hc, hl, _, _, hs⟩ := rz_right h
    have h8 : out.length ≤ 8 := by rw [hl]; exact hc.2.1
    have h4 : ∀ l ∈ out, l.length ≤ 4 := fun l hl => by
      obtain ⟨k, hk⟩ := List.getElem?_of_mem hl
      obtain ⟨x, g, _, _, hm⟩ := hs k l hk
      have := (sk_is hm).2.1
      omega
    have := ptN_small h4
    unfold rzL
    rw [h]
    show out.length ≤ 8 ∧ ptN out ≤ 32
    exact ⟨h8, by omega⟩
theorem stk_mem {n : Nat} {B : World → Prop} {w : World} {v : Value} {es : List (Value × List Pt)} {ll : List (List Pt)} {L : List Item} (hE : lsO es = ll) (h : Own n B w L) (hr : Item.row 27 1 v es.length (vsO es) ∈ L) (hs : ∀ x ∈ rwP es, x ∈ L) : StkR w v ll := by
  subst hE
  refine ⟨vsO es, by simp, ?_, fun k l ev hs' hev => ?_⟩
  · have := SlAt.of_row (h.holds _ hr)
    rwa [List.length_map]
  · rw [List.getElem?_map] at hs' hev
    obtain ⟨p, hp, rfl⟩ := Option.map_eq_some_iff.1 hs'
    rw [hp] at hev
    cases hev
    exact SlAt.of_row (h.holds (.row 24 3 p.1 p.2.length (pcC p.2)) (hs _ (List.mem_map_of_mem (List.mem_of_getElem? hp))))
theorem esQ_len (es : List (Value × List Pt)) : (esQ es).length = es.length := by unfold esQ; rw [List.length_map]
theorem esQ_fst (es : List (Value × List Pt)) : (esQ es).map (·.1) = vsO es := by unfold esQ vsO; rw [List.map_map]; rfl
theorem held_own {n : Nat} {B : World → Prop} {w : World} {L : List Item} {va : Value} {es : List (Value × List Pt)} {m : Nat} (h : Own n B w L) (hr : Item.row 27 1 va es.length (vsO es) ∈ L) (hs : ∀ x ∈ rwQ (mkQ 1 (esQ es)), x ∈ L) (hn : es.length ≤ 1048576) (hm : totQ (esQ es) = m) (h9 : m ≤ 3145728) :
    Calls Tryd.prog 36 #[va, .int .i64 1] w fun e w' => e = .returned (.int .i64 (1 + (m : Int))) ∧ Below w.heap.size w w' := by
  subst hm
  exact heldPSS_any va (esQ es) (vsO es) es.length 1 w (esQ_len es) (esQ_fst es) (SlAt.of_row (h.holds _ hr)) (fun i p hp => by
    have h1 := List.mem_of_getElem? (mkQ_at (r := 1) hp)
    exact SlAt.of_row (h.holds (.row 24 3 p.1 p.2.1 (mkTo (1 + totQ ((esQ es).take i)) p.2.2.length p.2.2)) (hs _ (List.mem_map_of_mem h1)))) hn h9 (by omega) (by omega)
theorem own_x3 {n : Nat} {B : World → Prop} {w : World} {v a b : Item} {U T : List Item} (h : Own n B w (v :: (U ++ (a :: b :: T)))) : Own n B w (b :: a :: v :: (U ++ T)) :=
  h.perm (((List.Perm.cons _ (List.perm_middle.trans (List.Perm.cons _ List.perm_middle))).trans ((List.Perm.swap _ _ _).trans (List.Perm.cons _ (List.Perm.swap _ _ _)))).trans (List.Perm.swap _ _ _))
theorem own_sw {n : Nat} {B : World → Prop} {w : World} {a b : Item} {T : List Item} (h : Own n B w (a :: b :: T)) : Own n B w (b :: a :: T) := h.perm (List.Perm.swap _ _ _)
theorem own_temp {n : Nat} {B : World → Prop} {w : World} {v a b : Item} {U T : List Item} (h : Own n B w (v :: (U ++ (a :: b :: T)))) : Own n B w (v :: (U ++ T)) :=
  Own.sub (.cons_cons _ (List.Sublist.append_left (.cons _ (.cons _ (.refl _))) _)) h

set_option maxRecDepth 20000 in
set_option maxHeartbeats 8000000 in
theorem xRealizeBass_of (f : Int) (vb : Value) (bs : List Pt) (vg : Value) (gs : List Int) (w : World) (hf : r64 f) (hbm : bs.length ≤ maxLen) (hb64 : ∀ x ∈ bs, p64s x) (hB0 : PtsAt w vb bs) (hgm : gs.length ≤ maxLen) (hg64 : ∀ g ∈ gs, r64 g) (hG0 : IntsIn w vg gs)
    (hS : CRz 19 w) (hI : CRz 18 w) :
    Calls Tryd.prog 8 #[.int .i64 f, vb, vg] w fun e w' => e = .returned (.bool true) ∧ Below w.heap.size w w' := by
  have hO := Own.start w
  have hF := True.intro
  obtain ⟨Ag, cg, rfl, _⟩ := hG0.open11
  by_cases hgl : gs.length ≤ 1048576
  · by_cases hbl : bs.length ≤ 1048576
    · have HZ := hid (szP_is hB0 hbm (szP_yes hbl))
      obtain ⟨nb, hnb⟩ : ∃ n, bs.length = n := ⟨_, rfl⟩
      obtain ⟨ng, hng⟩ : ∃ n, gs.length = n := ⟨_, rfl⟩
      rw [hnb] at HZ hbl
      have n0 : (0 : Int) ≤ 1048576 - (nb : Int) := by omega
      have n1 : ¬ (1048576 - (nb : Int) < 0) := by omega
      have hgl2 : (ng : Int) ≤ 1048576 := by omega
      have hgl3 : ¬ 1048576 < (ng : Int) := by omega
      have HTB := hid (fun W (hW : Below w.heap.size w W) => toPS_any vb bs W (hB0.below hW) (by rw [hnb]; exact hbl))
      have HTG := hid (fun W (hW : Below w.heap.size w W) => toN_at _ gs W (hG0.below hW) hgl)
      obtain ⟨ll, hll⟩ : ∃ l, rzL f bs gs = l := ⟨_, rfl⟩
      obtain ⟨y, hy⟩ : ∃ b, rzB f bs gs = b := ⟨_, rfl⟩
      have hsm := rzL_small f bs gs
      rw [hll] at hsm
      have HSM := hid hsm
      have HS := hid (fun va vc W (hW : Below w.heap.size w W) (a : SlAt W va nb 3 (pcC bs)) (b : SlAt W vc ng 1 (intC gs)) => by
        have := hS f va vc bs gs W hW hf (by rw [hnb]; exact a) (by rw [hng]; exact b) (by rw [hnb]; exact hbl) hgl hb64 hg64
        rwa [hll, hy] at this)
      have HI := hid (fun va vc W (hW : Below w.heap.size w W) (a : SlAt W va nb 3 (pcC bs)) (b : SlAt W vc ng 1 (intC gs)) => by
        have := hI f va vc bs gs W hW hf (by rw [hnb]; exact a) (by rw [hng]; exact b) (by rw [hnb]; exact hbl) hgl hb64 hg64
        rwa [hll, hy] at this)
      have HEP := hid (fun va vb W (h1 : SlAt W va nb 3 (pcC bs)) (h2 : SlAt W vb nb 3 (pcC bs)) => eqPS_same va vb nb (pcC bs) W h1 h2 (pcC_int bs))
      have HEI := hid (fun va vb W (h1 : SlAt W va ng 1 (intC gs)) (h2 : SlAt W vb ng 1 (intC gs)) => eqIntS_same va vb ng (intC gs) W h1 h2 (intC_int gs))
      have HEL := hid (fun va vb W (h1 : StkR W va ll) (h2 : StkR W vb ll) => eqPSS_same va vb ll ll.length W rfl h1 h2 (by have := HSM.out.1; omega))
      have hpl : (pcC bs).length = nb * 3 := by rw [pcC_len, hnb]
      have hgl9 : (intC gs).length = ng := by unfold intC; rw [List.length_map, hng]
      have HPL := hid (And.intro hpl hgl9)
      obtain ⟨xb, hxb⟩ : ∃ l, pcC bs = l := ⟨_, rfl⟩
      obtain ⟨xg, hxg⟩ : ∃ l, intC gs = l := ⟨_, rfl⟩
      rw [hnb] at HTB
      rw [hng] at HTG ⊢
      rw [hxb] at HPL HTB HS HI HEP
      rw [hxg] at HPL HTG HS HI HEI
      have k1 : (0 : Int) ≤ 1 + (xb.length : Int) := by omega
      have k2 : (1 : Int) + (xb.length : Int) ≤ 10000000 := by have := HPL.out.1; omega
      have k3 : ¬ (1 + (xb.length : Int) + (xg.length : Int) < 0) := by omega
      have k4 : nb ≤ 1000000000 := by omega
      have k5 : ng ≤ 1000000000 := by omega
      clear hS hI hb64 hg64 hB0 hG0 hnb hng hbm hgm hgl hbl hf hll hy hsm hpl hgl9 hxb hxg
      go_enter Tryd.func8, Tryd.ntmps8
      go_wp2_with (go_at_call 29; refine (HZ.out _ (Below.refl _ _)).mono ?_; rintro e w1 ⟨rfl, rfl⟩)
      (go_at_call 30; apply own_at hO; (repeat (first | (with_reducible exact hO) | (with_reducible apply Own.alloc) | (with_reducible apply Own.drew) | ((with_reducible apply Own.set_at); (focus (show _ ≤ _; omega))))); have hG := hF; clear hF; clear hO; intro hO; refine own_call_row hO (fun hB => HTB.out _ hB) ?_; clear hO; intro v w1 hO; (try simp only [World.size_alloc1, World.size_drew, Nat.reduceAdd] at hO); (try simp only [upd, updI, List.map_cons, List.map_nil, eq_self, if_true, if_false, reduceIte, Nat.add_eq_left, Nat.left_eq_add, Nat.reduceEqDiff, List.set_cons_zero, List.set_cons_succ, hG] at hO); clear hG; have hF := hO; (try simp only [Own, Item.Holds, apartI, CellsAt, Nat.reduceAdd, Nat.zero_add, List.mem_cons, List.not_mem_nil, or_false, forall_eq_or_imp, forall_eq, ne_eq, false_imp_iff, implies_true, and_true] at hF))
      obtain ⟨A1, c1, hv1⟩ := (SlAt.of_row hO.1.1).form
      subst hv1
      go_wp2_with fail
      (go_at_call 31; apply own_at hO; (repeat (first | (with_reducible exact hO) | (with_reducible apply Own.alloc) | (with_reducible apply Own.drew) | ((with_reducible apply Own.set_at); (focus (show _ ≤ _; omega))))); have hG := hF; clear hF; clear hO; intro hO; refine own_call_row hO (fun hB => HTG.out _ hB) ?_; clear hO; intro v w1 hO; (try simp only [World.size_alloc1, World.size_drew, Nat.reduceAdd] at hO); (try simp only [upd, updI, List.map_cons, List.map_nil, eq_self, if_true, if_false, reduceIte, Nat.add_eq_left, Nat.left_eq_add, Nat.reduceEqDiff, List.set_cons_zero, List.set_cons_succ, hG] at hO); clear hG; have hF := hO; (try simp only [Own, Item.Holds, apartI, CellsAt, Nat.reduceAdd, Nat.zero_add, List.mem_cons, List.not_mem_nil, or_false, forall_eq_or_imp, forall_eq, ne_eq, false_imp_iff, implies_true, and_true] at hF))
      obtain ⟨A2, c2, hv2⟩ := (SlAt.of_row hO.1.1).form
      subst hv2
      go_wp2_with fail
      (go_at_call 19; apply own_at hO; (repeat (first | (with_reducible exact hO) | (with_reducible apply Own.alloc) | (with_reducible apply Own.drew) | ((with_reducible apply Own.set_at); (focus (show _ ≤ _; omega))))); have hG := hF; clear hF; clear hO; intro hO; clear hG; refine own_call_stkB hO (fun hB => HS.out _ _ _ hB (SlAt.of_row hO.2.1.1) (SlAt.of_row hO.1.1)) ?_; clear hO; intro v1 es1 w1 hE1 hO)
      replace hO := own_temp hO
      obtain ⟨Aw, cw, hvw⟩ := (SlAt.of_row hO.1.1).form
      subst hvw
      have HE1 := hid hE1
      clear hE1
      have hF := True.intro
      have hF := hO; (try simp only [Own, Item.Holds, apartI, CellsAt, Nat.reduceAdd, Nat.zero_add, List.mem_cons, List.not_mem_nil, or_false, forall_eq_or_imp, forall_eq, ne_eq, false_imp_iff, implies_true, and_true] at hF)
      go_wp2_with fail
      (go_at_call 30; apply own_at hO; (repeat (first | (with_reducible exact hO) | (with_reducible apply Own.alloc) | (with_reducible apply Own.drew) | ((with_reducible apply Own.set_at); (focus (show _ ≤ _; omega))))); have hG := hF; clear hF; clear hO; intro hO; refine own_call_row hO (fun hB => HTB.out _ hB) ?_; clear hO; intro v w1 hO; (try simp only [World.size_alloc1, World.size_drew, Nat.reduceAdd] at hO); (try simp only [upd, updI, List.map_cons, List.map_nil, eq_self, if_true, if_false, reduceIte, Nat.add_eq_left, Nat.left_eq_add, Nat.reduceEqDiff, List.set_cons_zero, List.set_cons_succ, hG] at hO); clear hG; have hF := hO; (try simp only [Own, Item.Holds, apartI, CellsAt, Nat.reduceAdd, Nat.zero_add, List.mem_cons, List.not_mem_nil, or_false, forall_eq_or_imp, forall_eq, ne_eq, false_imp_iff, implies_true, and_true] at hF))
      obtain ⟨A3, c3, hv3⟩ := (SlAt.of_row hO.1.1).form
      subst hv3
      go_wp2_with fail
      (go_at_call 31; apply own_at hO; (repeat (first | (with_reducible exact hO) | (with_reducible apply Own.alloc) | (with_reducible apply Own.drew) | ((with_reducible apply Own.set_at); (focus (show _ ≤ _; omega))))); have hG := hF; clear hF; clear hO; intro hO; refine own_call_row hO (fun hB => HTG.out _ hB) ?_; clear hO; intro v w1 hO; (try simp only [World.size_alloc1, World.size_drew, Nat.reduceAdd] at hO); (try simp only [upd, updI, List.map_cons, List.map_nil, eq_self, if_true, if_false, reduceIte, Nat.add_eq_left, Nat.left_eq_add, Nat.reduceEqDiff, List.set_cons_zero, List.set_cons_succ, hG] at hO); clear hG; have hF := hO; (try simp only [Own, Item.Holds, apartI, CellsAt, Nat.reduceAdd, Nat.zero_add, List.mem_cons, List.not_mem_nil, or_false, forall_eq_or_imp, forall_eq, ne_eq, false_imp_iff, implies_true, and_true] at hF))
      obtain ⟨A4, c4, hv4⟩ := (SlAt.of_row hO.1.1).form
      subst hv4
      go_wp2_with fail
      (go_at_call 18; apply own_at hO; (repeat (first | (with_reducible exact hO) | (with_reducible apply Own.alloc) | (with_reducible apply Own.drew) | ((with_reducible apply Own.set_at); (focus (show _ ≤ _; omega))))); have hG := hF; clear hF; clear hO; intro hO; clear hG; refine own_call_stkB hO (fun hB => HI.out _ _ _ hB (SlAt.of_row hO.2.1.1) (SlAt.of_row hO.1.1)) ?_; clear hO; intro v2 es2 w1 hE2 hO)
      obtain ⟨Ah, ch, hvh⟩ := (SlAt.of_row hO.1.1).form
      subst hvh
      have HE2 := hid hE2
      clear hE2
      have hF := True.intro
      go_wp2_with fail
      (go_at_call 32; apply own_at hO; (repeat (first | (with_reducible exact hO) | (with_reducible apply Own.alloc) | (with_reducible apply Own.drew) | ((with_reducible apply Own.set_at); (focus (show _ ≤ _; omega))))); have hG := hF; clear hF; clear hO; intro hO; refine own_callO hO (fun hW => HEL.out _ _ _ (stk_mem HE2.out hW List.mem_cons_self (fun x hx => List.mem_cons_of_mem _ (List.mem_append_left _ hx))) (stk_mem HE1.out hW (by simp) (fun x hx => by simp [hx]))) ?_; clear hO; intro w1 hO; (try simp only [World.size_alloc1, World.size_drew, Nat.reduceAdd] at hO); (try simp only [upd, updI, List.map_cons, List.map_nil, eq_self, if_true, if_false, reduceIte, Nat.add_eq_left, Nat.left_eq_add, Nat.reduceEqDiff, List.set_cons_zero, List.set_cons_succ, hG] at hO); clear hG; have hF := hO; (try simp only [Own, Item.Holds, apartI, CellsAt, Nat.reduceAdd, Nat.zero_add, List.mem_cons, List.not_mem_nil, or_false, forall_eq_or_imp, forall_eq, ne_eq, false_imp_iff, implies_true, and_true] at hF))
      go_wp2_with fail
      (go_at_call 30; apply own_at hO; (repeat (first | (with_reducible exact hO) | (with_reducible apply Own.alloc) | (with_reducible apply Own.drew) | ((with_reducible apply Own.set_at); (focus (show _ ≤ _; omega))))); have hG := hF; clear hF; clear hO; intro hO; refine own_call_row hO (fun hB => HTB.out _ hB) ?_; clear hO; intro v w1 hO; (try simp only [World.size_alloc1, World.size_drew, Nat.reduceAdd] at hO); (try simp only [upd, updI, List.map_cons, List.map_nil, eq_self, if_true, if_false, reduceIte, Nat.add_eq_left, Nat.left_eq_add, Nat.reduceEqDiff, List.set_cons_zero, List.set_cons_succ, hG] at hO); clear hG; have hF := hO; (try simp only [Own, Item.Holds, apartI, CellsAt, Nat.reduceAdd, Nat.zero_add, List.mem_cons, List.not_mem_nil, or_false, forall_eq_or_imp, forall_eq, ne_eq, false_imp_iff, implies_true, and_true] at hF))
      obtain ⟨A5, c5, hv5⟩ := (SlAt.of_row hO.1.1).form
      subst hv5
      go_wp2_with fail
      (go_at_call 26; apply own_at hO; (repeat (first | (with_reducible exact hO) | (with_reducible apply Own.alloc) | (with_reducible apply Own.drew) | ((with_reducible apply Own.set_at); (focus (show _ ≤ _; omega))))); have hG := hF; clear hF; clear hO; intro hO; refine own_callO hO (fun hW => HEP.out _ _ _ (SlAt.of_row (hW.holds (.row 24 3 (.slice A3 nb c3) nb xb) (by simp))) (SlAt.of_row hW.1.1)) ?_; clear hO; intro w1 hO; (try simp only [World.size_alloc1, World.size_drew, Nat.reduceAdd] at hO); (try simp only [upd, updI, List.map_cons, List.map_nil, eq_self, if_true, if_false, reduceIte, Nat.add_eq_left, Nat.left_eq_add, Nat.reduceEqDiff, List.set_cons_zero, List.set_cons_succ, hG] at hO); clear hG; have hF := hO; (try simp only [Own, Item.Holds, apartI, CellsAt, Nat.reduceAdd, Nat.zero_add, List.mem_cons, List.not_mem_nil, or_false, forall_eq_or_imp, forall_eq, ne_eq, false_imp_iff, implies_true, and_true] at hF))
      replace hO := hO.2
      clear hF
      have hF := True.intro
      go_wp2_with fail
      (go_at_call 31; apply own_at hO; (repeat (first | (with_reducible exact hO) | (with_reducible apply Own.alloc) | (with_reducible apply Own.drew) | ((with_reducible apply Own.set_at); (focus (show _ ≤ _; omega))))); have hG := hF; clear hF; clear hO; intro hO; refine own_call_row hO (fun hB => HTG.out _ hB) ?_; clear hO; intro v w1 hO; (try simp only [World.size_alloc1, World.size_drew, Nat.reduceAdd] at hO); (try simp only [upd, updI, List.map_cons, List.map_nil, eq_self, if_true, if_false, reduceIte, Nat.add_eq_left, Nat.left_eq_add, Nat.reduceEqDiff, List.set_cons_zero, List.set_cons_succ, hG] at hO); clear hG; have hF := hO; (try simp only [Own, Item.Holds, apartI, CellsAt, Nat.reduceAdd, Nat.zero_add, List.mem_cons, List.not_mem_nil, or_false, forall_eq_or_imp, forall_eq, ne_eq, false_imp_iff, implies_true, and_true] at hF))
      obtain ⟨A6, c6, hv6⟩ := (SlAt.of_row hO.1.1).form
      subst hv6
      go_wp2_with fail
      (go_at_call 33; apply own_at hO; (repeat (first | (with_reducible exact hO) | (with_reducible apply Own.alloc) | (with_reducible apply Own.drew) | ((with_reducible apply Own.set_at); (focus (show _ ≤ _; omega))))); have hG := hF; clear hF; clear hO; intro hO; refine own_callO hO (fun hW => HEI.out _ _ _ (SlAt.of_row (hW.holds (.row 3 1 (.slice A4 ng c4) ng xg) (by simp))) (SlAt.of_row hW.1.1)) ?_; clear hO; intro w1 hO; (try simp only [World.size_alloc1, World.size_drew, Nat.reduceAdd] at hO); (try simp only [upd, updI, List.map_cons, List.map_nil, eq_self, if_true, if_false, reduceIte, Nat.add_eq_left, Nat.left_eq_add, Nat.reduceEqDiff, List.set_cons_zero, List.set_cons_succ, hG] at hO); clear hG; have hF := hO; (try simp only [Own, Item.Holds, apartI, CellsAt, Nat.reduceAdd, Nat.zero_add, List.mem_cons, List.not_mem_nil, or_false, forall_eq_or_imp, forall_eq, ne_eq, false_imp_iff, implies_true, and_true] at hF))
      replace hO := own_x3 hO.2
      clear hF
      have hF := True.intro
      go_wp2_with fail
      (go_at_call 27; apply own_at hO; (repeat (first | (with_reducible exact hO) | (with_reducible apply Own.alloc) | (with_reducible apply Own.drew) | ((with_reducible apply Own.set_at); (focus (show _ ≤ _; omega))))); clear hF; clear hO; intro hO; refine own_mark hO (fun hr => markPS_any _ _ _ _ _ _ _ hr (by omega) (by omega) k4) ?_; clear hO; intro w1 hO)
      have hF := True.intro
      replace hO := own_sw hO
      go_wp2_with fail
      (go_at_call 34; apply own_at hO; (repeat (first | (with_reducible exact hO) | (with_reducible apply Own.alloc) | (with_reducible apply Own.drew) | ((with_reducible apply Own.set_at); (focus (show _ ≤ _; omega))))); clear hF; clear hO; intro hO; refine own_mark1 hO (fun hr => markIS_any _ _ _ _ _ _ _ hr k1 k2 k5) ?_; clear hO; intro w1 hO)
      have hF := True.intro
      replace hO := hO.2.2
      go_wp2_with fail
      (go_at_call 32; apply own_at hO; (repeat (first | (with_reducible exact hO) | (with_reducible apply Own.alloc) | (with_reducible apply Own.drew) | ((with_reducible apply Own.set_at); (focus (show _ ≤ _; omega))))); have hG := hF; clear hF; clear hO; intro hO; refine own_callO hO (fun hW => HEL.out _ _ _ (stk_mem HE2.out hW List.mem_cons_self (fun x hx => List.mem_cons_of_mem _ (List.mem_append_left _ hx))) (stk_mem HE1.out hW (by simp) (fun x hx => by simp [hx]))) ?_; clear hO; intro w1 hO; (try simp only [World.size_alloc1, World.size_drew, Nat.reduceAdd] at hO); (try simp only [upd, updI, List.map_cons, List.map_nil, eq_self, if_true, if_false, reduceIte, Nat.add_eq_left, Nat.left_eq_add, Nat.reduceEqDiff, List.set_cons_zero, List.set_cons_succ, hG] at hO); clear hG; have hF := hO; (try simp only [Own, Item.Holds, apartI, CellsAt, Nat.reduceAdd, Nat.zero_add, List.mem_cons, List.not_mem_nil, or_false, forall_eq_or_imp, forall_eq, ne_eq, false_imp_iff, implies_true, and_true] at hF))
      have hle2 : es2.length ≤ 8 := by
        have h1 : (lsO es2).length = es2.length := List.length_map ..
        rw [← h1, HE2.out]
        exact HSM.out.1
      obtain ⟨m, hm⟩ : ∃ m, totQ (esQ es2) = m := ⟨_, rfl⟩
      have hm9 : m ≤ 96 := by
        rw [← hm, totQ_es, HE2.out]
        have := HSM.out.2
        omega
      have HM := hid hm
      have HMK := hid (fun W (h : Own w.heap.size (Below w.heap.size w) W (.row 27 1 (.slice Ah es2.length ch) es2.length (vsO es2) :: (rwQ (esQ es2) ++ (.row 27 1 (.slice Aw es1.length cw) es1.length (vsO es1) :: (rwP es1 ++ []))))) => by
        have := markPSS_keep (.slice Ah es2.length ch) (esQ es2) (vsO es2) es2.length 1 W (esQ_len es2) (esQ_fst es2) h (by omega) (by omega) (by omega) (by omega)
        rwa [hm] at this)
      rw [rwP_Q es2] at hO
      have k6 : ¬ (1 + (m : Int) < 0) := by omega
      clear hm
      go_wp2_with fail
      (go_at_call 35; apply own_at hO; (repeat (first | (with_reducible exact hO) | (with_reducible apply Own.alloc) | (with_reducible apply Own.drew) | ((with_reducible apply Own.set_at); (focus (show _ ≤ _; omega))))); clear hF; clear hO; intro hO; refine (HMK.out _ hO).mono ?_; clear hO; rintro e w1 ⟨rfl, hO⟩)
      have hF := True.intro
      go_wp2_with fail
      (go_at_call 36; apply own_at hO; (repeat (first | (with_reducible exact hO) | (with_reducible apply Own.alloc) | (with_reducible apply Own.drew) | ((with_reducible apply Own.set_at); (focus (show _ ≤ _; omega))))); have hG := hF; clear hF; clear hO; intro hO; refine own_callO hO (fun hW => held_own hW List.mem_cons_self (fun x hx => List.mem_cons_of_mem _ (List.mem_append_left _ hx)) (by omega) HM.out (by omega)) ?_; clear hO; intro w1 hO; (try simp only [World.size_alloc1, World.size_drew, Nat.reduceAdd] at hO); (try simp only [upd, updI, List.map_cons, List.map_nil, eq_self, if_true, if_false, reduceIte, Nat.add_eq_left, Nat.left_eq_add, Nat.reduceEqDiff, List.set_cons_zero, List.set_cons_succ, hG] at hO); clear hG; have hF := hO; (try simp only [Own, Item.Holds, apartI, CellsAt, Nat.reduceAdd, Nat.zero_add, List.mem_cons, List.not_mem_nil, or_false, forall_eq_or_imp, forall_eq, ne_eq, false_imp_iff, implies_true, and_true] at hF))
      clear hF
      have hF := True.intro
      go_wp2_with fail
      (go_at_call 30; apply own_at hO; (repeat (first | (with_reducible exact hO) | (with_reducible apply Own.alloc) | (with_reducible apply Own.drew) | ((with_reducible apply Own.set_at); (focus (show _ ≤ _; omega))))); have hG := hF; clear hF; clear hO; intro hO; refine own_call_row hO (fun hB => HTB.out _ hB) ?_; clear hO; intro v w1 hO; (try simp only [World.size_alloc1, World.size_drew, Nat.reduceAdd] at hO); (try simp only [upd, updI, List.map_cons, List.map_nil, eq_self, if_true, if_false, reduceIte, Nat.add_eq_left, Nat.left_eq_add, Nat.reduceEqDiff, List.set_cons_zero, List.set_cons_succ, hG] at hO); clear hG; have hF := hO; (try simp only [Own, Item.Holds, apartI, CellsAt, Nat.reduceAdd, Nat.zero_add, List.mem_cons, List.not_mem_nil, or_false, forall_eq_or_imp, forall_eq, ne_eq, false_imp_iff, implies_true, and_true] at hF))
      obtain ⟨A7, c7, hv7⟩ := (SlAt.of_row hO.1.1).form
      subst hv7
      go_wp2_with fail
      (go_at_call 31; apply own_at hO; (repeat (first | (with_reducible exact hO) | (with_reducible apply Own.alloc) | (with_reducible apply Own.drew) | ((with_reducible apply Own.set_at); (focus (show _ ≤ _; omega))))); have hG := hF; clear hF; clear hO; intro hO; refine own_call_row hO (fun hB => HTG.out _ hB) ?_; clear hO; intro v w1 hO; (try simp only [World.size_alloc1, World.size_drew, Nat.reduceAdd] at hO); (try simp only [upd, updI, List.map_cons, List.map_nil, eq_self, if_true, if_false, reduceIte, Nat.add_eq_left, Nat.left_eq_add, Nat.reduceEqDiff, List.set_cons_zero, List.set_cons_succ, hG] at hO); clear hG; have hF := hO; (try simp only [Own, Item.Holds, apartI, CellsAt, Nat.reduceAdd, Nat.zero_add, List.mem_cons, List.not_mem_nil, or_false, forall_eq_or_imp, forall_eq, ne_eq, false_imp_iff, implies_true, and_true] at hF))
      obtain ⟨A8, c8, hv8⟩ := (SlAt.of_row hO.1.1).form
      subst hv8
      go_wp2_with fail
      (go_at_call 18; apply own_at hO; (repeat (first | (with_reducible exact hO) | (with_reducible apply Own.alloc) | (with_reducible apply Own.drew) | ((with_reducible apply Own.set_at); (focus (show _ ≤ _; omega))))); have hG := hF; clear hF; clear hO; intro hO; clear hG; refine own_call_stkB hO (fun hB => HI.out _ _ _ hB (SlAt.of_row hO.2.1.1) (SlAt.of_row hO.1.1)) ?_; clear hO; intro v3 es3 w1 hE3 hO)
      obtain ⟨Ak, ck, hvk⟩ := (SlAt.of_row hO.1.1).form
      subst hvk
      have HE3 := hid hE3
      clear hE3
      have hF := True.intro
      go_wp2_with fail
      (go_at_call 32; apply own_at hO; (repeat (first | (with_reducible exact hO) | (with_reducible apply Own.alloc) | (with_reducible apply Own.drew) | ((with_reducible apply Own.set_at); (focus (show _ ≤ _; omega))))); have hG := hF; clear hF; clear hO; intro hO; refine own_callO hO (fun hW => HEL.out _ _ _ (stk_mem HE3.out hW List.mem_cons_self (fun x hx => List.mem_cons_of_mem _ (List.mem_append_left _ hx))) (stk_mem HE1.out hW (by simp) (fun x hx => by simp [hx]))) ?_; clear hO; intro w1 hO; (try simp only [World.size_alloc1, World.size_drew, Nat.reduceAdd] at hO); (try simp only [upd, updI, List.map_cons, List.map_nil, eq_self, if_true, if_false, reduceIte, Nat.add_eq_left, Nat.left_eq_add, Nat.reduceEqDiff, List.set_cons_zero, List.set_cons_succ, hG] at hO); clear hG; have hF := hO; (try simp only [Own, Item.Holds, apartI, CellsAt, Nat.reduceAdd, Nat.zero_add, List.mem_cons, List.not_mem_nil, or_false, forall_eq_or_imp, forall_eq, ne_eq, false_imp_iff, implies_true, and_true] at hF))
      clear hF
      have hF := True.intro
      go_wp2_with fail
      (go_at_call 36; apply own_at hO; (repeat (first | (with_reducible exact hO) | (with_reducible apply Own.alloc) | (with_reducible apply Own.drew) | ((with_reducible apply Own.set_at); (focus (show _ ≤ _; omega))))); have hG := hF; clear hF; clear hO; intro hO; refine own_callO hO (fun hW => held_own hW (by simp) (fun x hx => by simp [hx]) (by omega) HM.out (by omega)) ?_; clear hO; intro w1 hO; (try simp only [World.size_alloc1, World.size_drew, Nat.reduceAdd] at hO); (try simp only [upd, updI, List.map_cons, List.map_nil, eq_self, if_true, if_false, reduceIte, Nat.add_eq_left, Nat.left_eq_add, Nat.reduceEqDiff, List.set_cons_zero, List.set_cons_succ, hG] at hO); clear hG; have hF := hO; (try simp only [Own, Item.Holds, apartI, CellsAt, Nat.reduceAdd, Nat.zero_add, List.mem_cons, List.not_mem_nil, or_false, forall_eq_or_imp, forall_eq, ne_eq, false_imp_iff, implies_true, and_true] at hF))
      go_wp2_with fail
      go_ret
      exact ⟨rfl, Own.base (by first | exact hO | (repeat (first | (with_reducible exact hO) | (with_reducible apply Own.alloc) | (with_reducible apply Own.drew) | ((with_reducible apply Own.set_at); (focus (show _ ≤ _; omega))))))⟩
    · have HZ := hid (szP_is hB0 hbm (szP_no (by omega)))
      obtain ⟨ng, hng⟩ : ∃ n, gs.length = n := ⟨_, rfl⟩
      have hgl3 : ¬ 1048576 < (ng : Int) := by omega
      have hgl2 : (ng : Int) ≤ 1048576 := by omega
      rw [hng]
      clear hS hI hb64 hg64 hB0 hG0 hng hbm hgm hgl hbl hf
      go_enter Tryd.func8, Tryd.ntmps8
      go_wp2_with (go_at_call 29; refine (HZ.out _ (Below.refl _ _)).mono ?_; rintro e w1 ⟨rfl, rfl⟩)
      go_ret
      exact ⟨rfl, hO.base⟩
  · have n0 : (1048576 : Int) < (gs.length : Int) := by omega
    have n1 : (gs.length : Int) ≤ 9223372036854775807 := by unfold maxLen at hgm; omega
    clear hS hI hb64 hg64 hB0 hG0 hbm hgm hgl hf
    go_enter Tryd.func8, Tryd.ntmps8
    go_wp2
    go_ret
    exact ⟨rfl, hO.base⟩
end Go.Proofs.YtfiodejbeeblgaaDoor
