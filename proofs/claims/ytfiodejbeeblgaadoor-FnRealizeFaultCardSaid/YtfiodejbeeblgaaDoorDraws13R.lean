/- What RealizeFault is drawn for: a key, bass pitches, figures, and chords, one of them turned, or one without pitches more. -/
import Derived.Test.YtfiodejbeeblgaaDoorDraws13B
import Derived.Test.YtfiodejbeeblgaaDoorDraws12
import Derived.Test.YtfiodejbeeblgaaDoorCon13
import Derived.Test.YtfiodejbeeblgaaDoorRegionD
namespace Go.Proofs.YtfiodejbeeblgaaDoor
set_option linter.unusedSimpArgs false
set_option linter.unusedVariables false
set_option maxRecDepth 8000
open Go.RowKit

theorem rzL_ok (f : Int) (bs : List Pt) (gs : List Int) : (rzL f bs gs).length ≤ 8 ∧ ∀ l ∈ rzL f bs gs, l.length = 4 ∧ ∀ x ∈ l, pvP x = true := by
  cases h : rzZ f bs gs with
  | none => unfold rzL; rw [h]; exact ⟨by simp, fun l hl => by simp at hl⟩
  | some out =>
    obtain ⟨hc, hl, _, _, hs⟩ := rz_right h
    have h8 : out.length ≤ 8 := by rw [hl]; exact hc.2.1
    unfold rzL
    rw [h]
    refine ⟨h8, fun l hl => ?_⟩
    obtain ⟨k, hk⟩ := List.getElem?_of_mem (show l ∈ out from hl)
    obtain ⟨x, g, _, _, hm⟩ := hs k l hk
    obtain ⟨_, h1, _, h2, _⟩ := sk_is hm
    exact ⟨h1, (vo4_iff.1 (st_zero h2).1).1⟩
/-- The chords of a list lie in rows that are owned. -/
def LdO (L : List Item) (evs : List Value) (ll : List (List Pt)) : Prop := evs.length = ll.length ∧ ∀ (k : Nat) (l : List Pt) (ev : Value), ll[k]? = some l → evs[k]? = some ev → Item.row 24 3 ev l.length (pcC l) ∈ L
theorem LdO.stk {n : Nat} {B : World → Prop} {w : World} {v : Value} {evs : List Value} {ll : List (List Pt)} {L : List Item} {s : Nat} (h : LdO L evs ll) (hs : ll.length = s) (hO : Own n B w (.row 27 1 v s evs :: L)) : StkR w v ll := by
  subst hs
  exact ⟨evs, h.1, SlAt.of_row hO.1.1, fun k l ev hl hev => SlAt.of_row (hO.2.holds _ (h.2 k l ev hl hev))⟩
theorem LdO.es (es : List (Value × List Pt)) (R : List Item) : LdO (rwP es ++ R) (vsO es) (lsO es) := ⟨by simp, fun k l ev hl hev => by
  rw [List.getElem?_map] at hl hev
  obtain ⟨p, hp, rfl⟩ := Option.map_eq_some_iff.1 hl
  rw [hp] at hev
  cases hev
  exact List.mem_append_left _ (List.mem_map_of_mem (List.mem_of_getElem? hp))⟩
theorem LdO.set {L : List Item} {evs : List Value} {ll : List (List Pt)} {j : Nat} {u : Value} {l : List Pt} {k : Nat} (h : LdO L evs ll) (hk : l.length = k) : LdO (.row 24 3 u k (pcC l) :: L) (evs.set j u) (ll.set j l) := by
  subst hk
  refine ⟨by rw [List.length_set, List.length_set, h.1], fun i x ev hl hev => ?_⟩
  by_cases he : j = i
  · subst he
    have h1 := (List.getElem?_eq_some_iff.1 hl).1
    have h2 := (List.getElem?_eq_some_iff.1 hev).1
    rw [List.length_set] at h1 h2
    rw [List.getElem?_set_self h1] at hl
    rw [List.getElem?_set_self h2] at hev
    cases hl
    cases hev
    exact List.mem_cons_self
  · rw [List.getElem?_set_ne he] at hl hev
    exact List.mem_cons_of_mem _ (h.2 i x ev hl hev)
theorem LdO.more {L : List Item} {evs : List Value} {ll : List (List Pt)} {u : Value} (h : LdO L evs ll) : LdO (.row 24 3 u 0 [] :: L) (evs ++ [u]) (ll ++ [[]]) := by
  refine ⟨by rw [List.length_append, List.length_append, h.1]; rfl, fun i x ev hl hev => ?_⟩
  rcases Nat.lt_or_ge i ll.length with hi | hi
  · rw [List.getElem?_append_left hi] at hl
    rw [List.getElem?_append_left (by rw [h.1]; exact hi)] at hev
    exact List.mem_cons_of_mem _ (h.2 i x ev hl hev)
  · have : i = ll.length := by have := (List.getElem?_eq_some_iff.1 hl).1; rw [List.length_append] at this; simp at this; omega
    subst this
    rw [List.getElem?_append_right (Nat.le_refl _), Nat.sub_self] at hl
    rw [List.getElem?_append_right (by rw [h.1]; exact Nat.le_refl _), h.1, Nat.sub_self] at hev
    simp at hl hev
    subst hl hev
    exact List.mem_cons_self
/-- What drawing for RealizeFault leaves. -/
def DrewRf (w : World) (e : Ending) (w' : World) : Prop :=
  ∃ (f : Int) (u v vl : Value) (bs : List Pt) (gs : List Int) (ll : List (List Pt)), (-3 ≤ f ∧ f ≤ 3) ∧ (∀ x ∈ bs, p64s x) ∧ bs.length ≤ 3 ∧ gs.length ≤ 4 ∧ (∀ g ∈ gs, r64 g) ∧ ll.length ≤ 9 ∧ (∀ l ∈ ll, l.length ≤ 4 ∧ ∀ x ∈ l, p64s x) ∧
    e = .returned (.tuple #[.int .i64 f, u, v, vl]) ∧ SlAt w' u bs.length 3 (pcC bs) ∧ SlAt w' v gs.length 1 (intC gs) ∧ StkR w' vl ll ∧ Below w.heap.size w w'
theorem results_tmp4 {fn : Func} {t u v x : Tmp} (h : fn.results = #[.tmp t, .tmp u, .tmp v, .tmp x]) (tmps : Array Value) (P : Program) (w : World) :
    (results fn tmps).run P w = .ok (.tuple #[tmps.getD t undef, tmps.getD u undef, tmps.getD v undef, tmps.getD x undef]) w := by
  simp [results, h]
theorem one1k13 {A : Option Addr} {k c : Nat} : ∀ u ∈ [Value.slice A k c], u.oneCell' = true := by
  intro u hu
  simp at hu
  subst hu
  rfl
theorem all_more {ll : List (List Pt)} (h : ∀ l ∈ ll, l.length ≤ 4 ∧ ∀ x ∈ l, p64s x) : ∀ l ∈ ll ++ [[]], l.length ≤ 4 ∧ ∀ x ∈ l, p64s x := by
  intro l hl
  rcases List.mem_append.1 hl with hl | hl
  · exact h l hl
  · simp at hl; subst hl; simp
theorem p64_ok {x : Pt} (h : ptOk x) : p64s x := p64_of h

set_option maxRecDepth 20000 in
set_option maxHeartbeats 8000000 in
theorem DrawRealizeFault_any (hS : ∀ (f : Int) (va vb : Value) (bs : List Pt) (gs : List Int) (W : World), SlAt W va bs.length 3 (pcC bs) → SlAt W vb gs.length 1 (intC gs) → Calls Tryd.prog 19 #[.int .i64 f, va, vb] W (StkOutB (rzL f bs gs) (rzB f bs gs) W))
    (v : Value) (n : Nat) (w : World) (hn : n ≤ maxLen) (h : BytesB w w.heap.size v n) :
    Calls Tryd.prog 22 #[v] w (DrewRf w) := by
  obtain ⟨i1, hi1, hy0, hy1, hy2⟩ := info_parts infoSt
  have HSS := hid hS
  clear hS
  go_enter Tryd.func22, Tryd.ntmps22
  go_wp2_with fail
  refine (open_any v n _ hn h).mono ?_
  rintro e wd ⟨r, hr, rfl, hR, hb⟩
  have hr0 := hR.lt
  have HB := hid (And.intro hb hr)
  go_wp2_with fail
  refine (l20Figures_any r 0 _ hR (by omega)).mono ?_
  rintro e w2 ⟨f, u, v', bs, gs, hf, hbs, hl1, hl2, hgs, rfl, hO⟩
  have HV := hid (And.intro hf (And.intro (show ∀ x ∈ bs, p64s x from fun x hx => p64_pv (hbs x hx).2) (And.intro hl1 (And.intro hl2 (show ∀ g ∈ gs, r64 g from fun g hg => by have := hgs g hg; unfold r64; omega)))))
  have hF := True.intro
  obtain ⟨Au, cu, hu⟩ := (SlAt.of_row hO.1.1).form
  subst hu
  obtain ⟨Av, cv, hv⟩ := (SlAt.of_row hO.2.1.1).form
  subst hv
  obtain ⟨y, hy⟩ : ∃ b, rzB f bs gs = b := ⟨_, rfl⟩
  obtain ⟨ll, hll⟩ : ∃ l, rzL f bs gs = l := ⟨_, rfl⟩
  have hok := rzL_ok f bs gs
  rw [hll] at hok
  have HOK := hid hok
  have HRZ := hid (fun W a b => by
    have := HSS.out f (.slice Au bs.length cu) (.slice Av gs.length cv) bs gs W a b
    rwa [hll, hy] at this)
  obtain ⟨nb, hnb⟩ : ∃ n, bs.length = n := ⟨_, rfl⟩
  obtain ⟨ng, hng⟩ : ∃ n, gs.length = n := ⟨_, rfl⟩
  have HNL := hid (And.intro hnb hng)
  rw [hnb] at hO HRZ
  rw [hng] at hO HRZ
  rw [hnb, hng]
  clear hR hb h hn hr hf hbs hl1 hl2 hgs hok hll hy hnb hng
  go_wp2_with fail
  (go_at_call 19; apply own_at hO; (repeat (first | (with_reducible exact hO) | (with_reducible apply Own.alloc) | (with_reducible apply Own.drew) | ((with_reducible apply Own.set_at); (focus (show _ ≤ _; omega))))); clear hF; clear hO; intro hO; refine own_call_stkB hO (fun hB => HRZ.out _ (SlAt.of_row hO.1.1) (SlAt.of_row hO.2.1.1)) ?_; clear hO; intro vl es w1 hE hO; obtain ⟨Al, cl, hvl⟩ := (SlAt.of_row hO.1.1).form; subst hvl)
  have HE := hid hE
  have hF := True.intro
  have hl8 : es.length ≤ 8 := by
    have h1 : (lsO es).length = es.length := List.length_map ..
    rw [← h1, hE]
    exact HOK.out.1
  have hll : ll.length = es.length := by rw [← hE]; exact List.length_map ..
  have hld := LdO.es es [.row 24 3 (.slice Au nb cu) nb (pcC bs), .row 3 1 (.slice Av ng cv) ng (intC gs)]
  have hu1 : Item.row 24 3 (.slice Au nb cu) nb (pcC bs) ∈ rwP es ++ [.row 24 3 (.slice Au nb cu) nb (pcC bs), .row 3 1 (.slice Av ng cv) ng (intC gs)] := by simp
  have hv1 : Item.row 3 1 (.slice Av ng cv) ng (intC gs) ∈ rwP es ++ [.row 24 3 (.slice Au nb cu) nb (pcC bs), .row 3 1 (.slice Av ng cv) ng (intC gs)] := by simp
  obtain ⟨L0, hL0⟩ : ∃ L, rwP es ++ [.row 24 3 (.slice Au nb cu) nb (pcC bs), .row 3 1 (.slice Av ng cv) ng (intC gs)] = L := ⟨_, rfl⟩
  obtain ⟨X, hX⟩ : ∃ X, vsO es = X := ⟨_, rfl⟩
  obtain ⟨s, hs⟩ : ∃ s, es.length = s := ⟨_, rfl⟩
  rw [hL0, hX, hs] at hO
  rw [hL0] at hld hu1 hv1
  rw [hE, hX] at hld
  rw [hs] at hl8 hll
  have HLD := hid hld
  have HUV := hid (And.intro hu1 hv1)
  have HLL := hid (And.intro hll (show ∀ l ∈ ll, l.length ≤ 4 ∧ ∀ x ∈ l, p64s x from fun l hl => ⟨by have := (HOK.out.2 l hl).1; omega, fun x hx => p64_pv ((HOK.out.2 l hl).2 x hx)⟩))
  clear hE hll hld hu1 hv1 hL0 hX
  rw [hs]
  clear hs
  by_cases hs0 : s = 0
  · have hs00 : decide ((0 : Int) < (s : Int)) = false := decide_eq_false (by omega)
    have hs01 : ¬ (0 : Int) < (s : Int) := by omega
    clear hs0
    go_wp2_with fail
    (go_at_call 42; apply own_at hO; (repeat (first | (with_reducible exact hO) | (with_reducible apply Own.alloc) | (with_reducible apply Own.drew) | ((with_reducible apply Own.set_at); (focus (show _ ≤ _; omega))))); have hG := hF; clear hF; clear hO; intro hO; refine own_odd hO hr0 (by omega) (by omega) (by omega) ?_; clear hO; intro x w1 hO; (try simp only [World.size_alloc1, World.size_drew, Nat.reduceAdd] at hO); (try simp only [upd, updI, List.map_cons, List.map_nil, eq_self, if_true, if_false, reduceIte, Nat.add_eq_left, Nat.left_eq_add, Nat.reduceEqDiff, List.set_cons_zero, List.set_cons_succ, hG] at hO); clear hG; have hF := hO; (try simp only [Own, Item.Holds, apartI, CellsAt, Nat.reduceAdd, Nat.zero_add, List.mem_cons, List.not_mem_nil, or_false, forall_eq_or_imp, forall_eq, ne_eq, false_imp_iff, implies_true, and_true] at hF))
    cases x
    · have HS := hid (And.intro (HLD.out.stk HLL.out.1 hO) (And.intro (SlAt.of_row (hO.2.holds _ HUV.out.1)) (And.intro (SlAt.of_row (hO.2.holds _ HUV.out.2)) (hO.base.1.below HB.out.1 HB.out.2))))
      clear hO hF
      go_wp2
      (try simp only [Exit.inBlock, Exit.then])
      refine bodyPost_ret (results_tmp4 rfl _ _ _) rfl ?_
      exact ⟨f, _, _, _, bs, gs, _, HV.out.1, HV.out.2.1, HV.out.2.2.1, HV.out.2.2.2.1, HV.out.2.2.2.2, by have := HLL.out.1; omega, HLL.out.2, rfl, by rw [HNL.out.1]; exact HS.out.2.1, by rw [HNL.out.2]; exact HS.out.2.2.1, HS.out.1, HS.out.2.2.2⟩
    · go_wp2_with (at_builtin; have hO2 := (hO.allocRow (e := 24) (cur := #[]) (k := 0) (cap := 0) 3 (by omega) (by unfold maxLen; omega) rfl).alloc (t := 27) (vs := [.slice (some ⟨w1.heap.size, 0, none⟩) 0 0]); simp only [World.size_alloc1] at hO2; clear hO; have hO := hO2.perm (List.Perm.cons _ (List.Perm.swap _ _ _)); clear hO2; refine wpList_append_item rfl _ _ 37 rfl 27 i1 (.slice none 0 0) 1 24 Tryd.underlying37 hi1 hy0 hy1 hy2 rfl (by decide) rfl rfl hO rfl one1k13 (by unfold maxLen; omega) (by omega) ?_; clear hO hF; intro v9 w9 hO _; have hF := True.intro)
      have HS := hid (And.intro (HLD.out.more.stk (show (_ ++ [[]]).length = s + 1 by rw [List.length_append, HLL.out.1]; rfl) hO) (And.intro (SlAt.of_row (hO.2.2.holds _ HUV.out.1)) (And.intro (SlAt.of_row (hO.2.2.holds _ HUV.out.2)) (hO.base.1.below HB.out.1 HB.out.2))))
      clear hO hF
      go_wp2
      (try simp only [Exit.inBlock, Exit.then])
      refine bodyPost_ret (results_tmp4 rfl _ _ _) rfl ?_
      exact ⟨f, _, _, _, bs, gs, _, HV.out.1, HV.out.2.1, HV.out.2.2.1, HV.out.2.2.2.1, HV.out.2.2.2.2, by have := HLL.out.1; rw [List.length_append, this]; show s + 1 ≤ 9; omega, all_more HLL.out.2, rfl, by rw [HNL.out.1]; exact HS.out.2.1, by rw [HNL.out.2]; exact HS.out.2.2.1, HS.out.1, HS.out.2.2.2⟩
  · have s0 : (0 : Int) < (s : Int) := by omega
    have s1 : (1 : Int) ≤ (s : Int) := by omega
    clear hs0
    go_wp2_with fail
    (go_at_call 42; apply own_at hO; (repeat (first | (with_reducible exact hO) | (with_reducible apply Own.alloc) | (with_reducible apply Own.drew) | ((with_reducible apply Own.set_at); (focus (show _ ≤ _; omega))))); have hG := hF; clear hF; clear hO; intro hO; refine own_odd hO hr0 (by omega) (by omega) (by omega) ?_; clear hO; intro x w1 hO; (try simp only [World.size_alloc1, World.size_drew, Nat.reduceAdd] at hO); (try simp only [upd, updI, List.map_cons, List.map_nil, eq_self, if_true, if_false, reduceIte, Nat.add_eq_left, Nat.left_eq_add, Nat.reduceEqDiff, List.set_cons_zero, List.set_cons_succ, hG] at hO); clear hG; have hF := hO; (try simp only [Own, Item.Holds, apartI, CellsAt, Nat.reduceAdd, Nat.zero_add, List.mem_cons, List.not_mem_nil, or_false, forall_eq_or_imp, forall_eq, ne_eq, false_imp_iff, implies_true, and_true] at hF))
    cases x
    · go_wp2_with fail
      (go_at_call 42; apply own_at hO; (repeat (first | (with_reducible exact hO) | (with_reducible apply Own.alloc) | (with_reducible apply Own.drew) | ((with_reducible apply Own.set_at); (focus (show _ ≤ _; omega))))); have hG := hF; clear hF; clear hO; intro hO; refine own_odd hO hr0 (by omega) (by omega) (by omega) ?_; clear hO; intro x w1 hO; (try simp only [World.size_alloc1, World.size_drew, Nat.reduceAdd] at hO); (try simp only [upd, updI, List.map_cons, List.map_nil, eq_self, if_true, if_false, reduceIte, Nat.add_eq_left, Nat.left_eq_add, Nat.reduceEqDiff, List.set_cons_zero, List.set_cons_succ, hG] at hO); clear hG; have hF := hO; (try simp only [Own, Item.Holds, apartI, CellsAt, Nat.reduceAdd, Nat.zero_add, List.mem_cons, List.not_mem_nil, or_false, forall_eq_or_imp, forall_eq, ne_eq, false_imp_iff, implies_true, and_true] at hF))
      cases x
      · have HS := hid (And.intro (HLD.out.stk HLL.out.1 hO) (And.intro (SlAt.of_row (hO.2.holds _ HUV.out.1)) (And.intro (SlAt.of_row (hO.2.holds _ HUV.out.2)) (hO.base.1.below HB.out.1 HB.out.2))))
        clear hO hF
        go_wp2
        (try simp only [Exit.inBlock, Exit.then])
        refine bodyPost_ret (results_tmp4 rfl _ _ _) rfl ?_
        exact ⟨f, _, _, _, bs, gs, _, HV.out.1, HV.out.2.1, HV.out.2.2.1, HV.out.2.2.2.1, HV.out.2.2.2.2, by have := HLL.out.1; omega, HLL.out.2, rfl, by rw [HNL.out.1]; exact HS.out.2.1, by rw [HNL.out.2]; exact HS.out.2.2.1, HS.out.1, HS.out.2.2.2⟩
      · go_wp2_with (at_builtin; have hO2 := (hO.allocRow (e := 24) (cur := #[]) (k := 0) (cap := 0) 3 (by omega) (by unfold maxLen; omega) rfl).alloc (t := 27) (vs := [.slice (some ⟨w1.heap.size, 0, none⟩) 0 0]); simp only [World.size_alloc1] at hO2; clear hO; have hO := hO2.perm (List.Perm.cons _ (List.Perm.swap _ _ _)); clear hO2; refine wpList_append_item rfl _ _ 37 rfl 27 i1 (.slice none 0 0) 1 24 Tryd.underlying37 hi1 hy0 hy1 hy2 rfl (by decide) rfl rfl hO rfl one1k13 (by unfold maxLen; omega) (by omega) ?_; clear hO hF; intro v9 w9 hO _; have hF := True.intro)
        have HS := hid (And.intro (HLD.out.more.stk (show (_ ++ [[]]).length = s + 1 by rw [List.length_append, HLL.out.1]; rfl) hO) (And.intro (SlAt.of_row (hO.2.2.holds _ HUV.out.1)) (And.intro (SlAt.of_row (hO.2.2.holds _ HUV.out.2)) (hO.base.1.below HB.out.1 HB.out.2))))
        clear hO hF
        go_wp2
        (try simp only [Exit.inBlock, Exit.then])
        refine bodyPost_ret (results_tmp4 rfl _ _ _) rfl ?_
        exact ⟨f, _, _, _, bs, gs, _, HV.out.1, HV.out.2.1, HV.out.2.2.1, HV.out.2.2.2.1, HV.out.2.2.2.2, by have := HLL.out.1; rw [List.length_append, this]; show s + 1 ≤ 9; omega, all_more HLL.out.2, rfl, by rw [HNL.out.1]; exact HS.out.2.1, by rw [HNL.out.2]; exact HS.out.2.2.1, HS.out.1, HS.out.2.2.2⟩
    · go_wp2_with fail
      (go_at_call 44; apply own_at hO; (repeat (first | (with_reducible exact hO) | (with_reducible apply Own.alloc) | (with_reducible apply Own.drew) | ((with_reducible apply Own.set_at); (focus (show _ ≤ _; omega))))); have hG := hF; clear hF; clear hO; intro hO; refine own_pick (k := (s : Int)) hO hr0 (by omega) (by omega) (by omega) ?_; clear hO; intro x w1 x0 x1 hO; (try simp only [World.size_alloc1, World.size_drew, Nat.reduceAdd] at hO); (try simp only [upd, updI, List.map_cons, List.map_nil, eq_self, if_true, if_false, reduceIte, Nat.add_eq_left, Nat.left_eq_add, Nat.reduceEqDiff, List.set_cons_zero, List.set_cons_succ, hG] at hO); clear hG; have hF := hO; (try simp only [Own, Item.Holds, apartI, CellsAt, Nat.reduceAdd, Nat.zero_add, List.mem_cons, List.not_mem_nil, or_false, forall_eq_or_imp, forall_eq, ne_eq, false_imp_iff, implies_true, and_true] at hF))
      obtain ⟨j, rfl⟩ : ∃ j : Nat, x = j := ⟨x.toNat, by omega⟩
      have hj : j < s := by omega
      obtain ⟨qo, co, huo, hq1, hq2⟩ := hO.row_open (by omega)
      cases huo
      obtain ⟨l, hl⟩ : ∃ l, ll[j]? = some l := ⟨_, List.getElem?_eq_getElem (by have := HLL.out.1; omega)⟩
      obtain ⟨ev, hev⟩ : ∃ ev, X[j]? = some ev := ⟨_, List.getElem?_eq_getElem (by have := HLL.out.1; have := HLD.out.1; omega)⟩
      have hm := HLD.out.2 j l ev hl hev
      have hlm := List.mem_of_getElem? hl
      obtain ⟨Ae, ce, hve⟩ := (SlAt.of_row (hO.2.holds _ hm)).form
      subst hve
      have e1 := hO.row_cell hev
      have HM := hid hm
      have HLM := hid (And.intro (HOK.out.2 l hlm) (show ∀ x ∈ l, ptOk x from fun x hx => ptOk_pv ((HOK.out.2 l hlm).2 x hx)))
      have HEV := hid hev
      clear hl hev hm hlm
      go_wp2_with (go_at_call 66; refine own_next (a := l) hO hr0 (by omega) (SlAt.of_row (hO.2.holds _ HM.out)) (fun e => by have := (hO.2.lt _ HM.out r e).1; omega) HLM.out.2 (by have := HLM.out.1.1; omega) ?_; clear hO e1; intro u2 l2 w2 h1 h2 hO; obtain ⟨A2, c2, hv2⟩ := (SlAt.of_row hO.1.1).form; subst hv2; have H2 := hid (And.intro h1 h2); clear h1 h2; have e2 := hO.2.row_cell HEV.out; have f2 := hO.2.row_free j)
      have hO3 := (hO.perm (List.Perm.swap _ _ _)).row_set j (.slice A2 l.length c2)
      clear hO
      have hO := hO3
      clear hO3
      have HLD2 := hid (HLD.out.set (j := j) (u := .slice A2 l.length c2) H2.out.1)
      have HLL2 := hid (And.intro (show (ll.set j l2).length = s by rw [List.length_set]; exact HLL.out.1) (show ∀ l ∈ ll.set j l2, l.length ≤ 4 ∧ ∀ x ∈ l, p64s x from fun x hx => by
        rcases List.mem_or_eq_of_mem_set hx with h | rfl
        · exact HLL.out.2 x h
        · exact ⟨by rw [H2.out.1]; have := HLM.out.1.1; omega, fun z hz => p64_ok (H2.out.2 z hz)⟩))
      have HUV2 := hid (And.intro (List.mem_cons_of_mem (.row 24 3 (.slice A2 l.length c2) l.length (pcC l2)) HUV.out.1) (List.mem_cons_of_mem (.row 24 3 (.slice A2 l.length c2) l.length (pcC l2)) HUV.out.2))
      clear HLD HLL HUV
      have HLD := HLD2
      have HLL := HLL2
      have HUV := HUV2
      clear HLD2 HLL2 HUV2
      go_wp2_with fail
      (go_at_call 42; apply own_at hO; (repeat (first | (with_reducible exact hO) | (with_reducible apply Own.alloc) | (with_reducible apply Own.drew) | ((with_reducible apply Own.set_at); (focus (show _ ≤ _; omega))))); have hG := hF; clear hF; clear hO; intro hO; refine own_odd hO hr0 (by omega) (by omega) (by omega) ?_; clear hO; intro x w1 hO; (try simp only [World.size_alloc1, World.size_drew, Nat.reduceAdd] at hO); (try simp only [upd, updI, List.map_cons, List.map_nil, eq_self, if_true, if_false, reduceIte, Nat.add_eq_left, Nat.left_eq_add, Nat.reduceEqDiff, List.set_cons_zero, List.set_cons_succ, hG] at hO); clear hG; have hF := hO; (try simp only [Own, Item.Holds, apartI, CellsAt, Nat.reduceAdd, Nat.zero_add, List.mem_cons, List.not_mem_nil, or_false, forall_eq_or_imp, forall_eq, ne_eq, false_imp_iff, implies_true, and_true] at hF))
      cases x
      · have HS := hid (And.intro (HLD.out.stk HLL.out.1 hO) (And.intro (SlAt.of_row (hO.2.holds _ HUV.out.1)) (And.intro (SlAt.of_row (hO.2.holds _ HUV.out.2)) (hO.base.1.below HB.out.1 HB.out.2))))
        clear hO hF
        go_wp2
        (try simp only [Exit.inBlock, Exit.then])
        refine bodyPost_ret (results_tmp4 rfl _ _ _) rfl ?_
        exact ⟨f, _, _, _, bs, gs, _, HV.out.1, HV.out.2.1, HV.out.2.2.1, HV.out.2.2.2.1, HV.out.2.2.2.2, by have := HLL.out.1; omega, HLL.out.2, rfl, by rw [HNL.out.1]; exact HS.out.2.1, by rw [HNL.out.2]; exact HS.out.2.2.1, HS.out.1, HS.out.2.2.2⟩
      · go_wp2_with (at_builtin; have hO2 := (hO.allocRow (e := 24) (cur := #[]) (k := 0) (cap := 0) 3 (by omega) (by unfold maxLen; omega) rfl).alloc (t := 27) (vs := [.slice (some ⟨w1.heap.size, 0, none⟩) 0 0]); simp only [World.size_alloc1] at hO2; clear hO; have hO := hO2.perm (List.Perm.cons _ (List.Perm.swap _ _ _)); clear hO2; refine wpList_append_item rfl _ _ 37 rfl 27 i1 (.slice none 0 0) 1 24 Tryd.underlying37 hi1 hy0 hy1 hy2 rfl (by decide) rfl rfl hO rfl one1k13 (by unfold maxLen; omega) (by omega) ?_; clear hO hF; intro v9 w9 hO _; have hF := True.intro)
        have HS := hid (And.intro (HLD.out.more.stk (show (_ ++ [[]]).length = s + 1 by rw [List.length_append, HLL.out.1]; rfl) hO) (And.intro (SlAt.of_row (hO.2.2.holds _ HUV.out.1)) (And.intro (SlAt.of_row (hO.2.2.holds _ HUV.out.2)) (hO.base.1.below HB.out.1 HB.out.2))))
        clear hO hF
        go_wp2
        (try simp only [Exit.inBlock, Exit.then])
        refine bodyPost_ret (results_tmp4 rfl _ _ _) rfl ?_
        exact ⟨f, _, _, _, bs, gs, _, HV.out.1, HV.out.2.1, HV.out.2.2.1, HV.out.2.2.2.1, HV.out.2.2.2.2, by have := HLL.out.1; rw [List.length_append, this]; show s + 1 ≤ 9; omega, all_more HLL.out.2, rfl, by rw [HNL.out.1]; exact HS.out.2.1, by rw [HNL.out.2]; exact HS.out.2.2.1, HS.out.1, HS.out.2.2.2⟩
end Go.Proofs.YtfiodejbeeblgaaDoor
