/- The functions that draw for chapter 13: a key, bass pitches and figures. -/
import Derived.Test.YtfdglkiehkilnaaDoorDraws13
import Derived.Test.YtfdglkiehkilnaaDoorIntC
import Derived.Test.YtfdglkiehkilnaaDoorPure13
namespace Go.Proofs.YtfdglkiehkilnaaDoor
set_option linter.unusedSimpArgs false
set_option linter.unusedVariables false
set_option maxRecDepth 8000
open Go.RowKit

theorem infoI13 : (Tryd.prog.info? 3).map (fun i => (i.zero, i.size, i.bytes)) = some (some (.int .i64 0), 1, 8) := by kernel_rfl
theorem one1g {z : Int} : ∀ u ∈ [Value.int .i64 z], u.oneCell' = true := by
  intro u hu
  simp at hu
  subst hu
  rfl
theorem intC_add (v : List Int) (z : Int) : intC v ++ [.int .i64 z] = intC (v ++ [z]) := by unfold intC; rw [List.map_append]; rfl
/-- What is known of a bass pitch that is drawn. -/
def baOk (f : Int) (x : Pt) : Prop := inK f x ∧ pvP x = true
theorem ba_of {f s o : Int} (hf : -3 ≤ f ∧ f ≤ 3) (hs : 0 ≤ s ∧ s ≤ 6) (ho : 2 ≤ o ∧ o ≤ 3) : baOk f ⟨s, kaZ f s, o⟩ := by
  have e : kaZ f s = altZ f s := by
    unfold kaZ
    rw [show keyB f = true from inB_iff.2 (by omega), show inB s 0 6 = true from inB_iff.2 hs]
    rfl
  have := altZ_bd f s
  refine ⟨⟨e, hs.1, hs.2⟩, ?_⟩
  rw [pvP_iff]
  dsimp only
  omega
/-- A key, bass pitches and figures are drawn. -/
def DrewFg (r : Nat) (P : Int) (w : World) (e : Ending) (w' : World) : Prop :=
  ∃ (f : Int) (u v : Value) (bs : List Pt) (gs : List Int), (-3 ≤ f ∧ f ≤ 3) ∧ (∀ x ∈ bs, baOk f x) ∧ bs.length ≤ 3 ∧ gs.length ≤ 4 ∧ (∀ g ∈ gs, 4 ≤ g ∧ g ≤ 9) ∧ e = .returned (.tuple #[.int .i64 f, u, v]) ∧
    Own w.heap.size (Bd r w (P + 30)) w' [.row 29 3 u bs.length (pcC bs), .row 3 1 v gs.length (intC gs)]
theorem all_snocP {p : Pt → Prop} {v : List Pt} {x : Pt} (h : ∀ y ∈ v, p y) (hx : p x) : ∀ y ∈ v ++ [x], p y := by
  intro y hy
  rcases List.mem_append.1 hy with hy | hy
  · exact h y hy
  · simp at hy; subst hy; exact hx
theorem all_snocI {p : Int → Prop} {v : List Int} {x : Int} (h : ∀ y ∈ v, p y) (hx : p x) : ∀ y ∈ v ++ [x], p y := by
  intro y hy
  rcases List.mem_append.1 hy with hy | hy
  · exact h y hy
  · simp at hy; subst hy; exact hx

set_option maxRecDepth 8000 in
set_option maxHeartbeats 8000000 in
theorem l20Figures_any (r : Nat) (P : Int) (w : World) (h : Rd w r P) (hP : P ≤ 700000) :
    Calls Tryd.prog 80 #[.pointer (some ⟨r, 0, none⟩)] w (DrewFg r P w) := by
  have hr0 := h.lt
  have hO := Own.startD h
  have hF := True.intro
  obtain ⟨i0, hi0, hz0, hz1, hz2⟩ := info_parts infoPi
  obtain ⟨i1, hi1, hy0, hy1, hy2⟩ := info_parts infoI13
  clear h
  go_enter Tryd.func80, Tryd.ntmps80
  go_wp2_with fail
  (go_at_call 65; apply own_at hO; (repeat (first | (with_reducible exact hO) | (with_reducible apply Own.alloc) | (with_reducible apply Own.drew) | ((with_reducible apply Own.set_at); (focus (show _ ≤ _; omega))))); have hG := hF; clear hF; clear hO; intro hO; refine own_pick (k := 7) hO hr0 (by omega) (by omega) (by omega) ?_; clear hO; intro x w1 x0 x1 hO; (try simp only [World.size_alloc1, World.size_drew, Nat.reduceAdd] at hO); (try simp only [upd, updI, List.map_cons, List.map_nil, eq_self, if_true, if_false, reduceIte, Nat.add_eq_left, Nat.left_eq_add, Nat.reduceEqDiff, List.set_cons_zero, List.set_cons_succ, hG] at hO); clear hG; have hF := hO; (try simp only [Own, Item.Holds, apartI, CellsAt, Nat.reduceAdd, Nat.zero_add, List.mem_cons, List.not_mem_nil, or_false, forall_eq_or_imp, forall_eq, ne_eq, false_imp_iff, implies_true, and_true] at hF))
  obtain ⟨f, hf⟩ : ∃ f, x - 3 = f := ⟨_, rfl⟩
  have wf : IntKind.i64.wrap (x - 3) = f := by rw [hf]; exact IntWalk.i64_in _ (by omega)
  have HFB := hid (show -3 ≤ f ∧ f ≤ 3 by omega)
  clear x0 x1 hf
  go_wp2_with fail
  have hO1 := (hO.allocRow (e := 29) (cur := #[]) (k := 0) (cap := 0) 3 (by omega) (by unfold maxLen; omega) rfl).allocRow (e := 3) (cur := #[]) (k := 0) (cap := 0) 1 (by omega) (by unfold maxLen; omega) rfl
  clear hO wf
  have hO := hO1
  clear hO1
  (go_at_call 65; apply own_at hO; (repeat (first | (with_reducible exact hO) | (with_reducible apply Own.alloc) | (with_reducible apply Own.drew) | ((with_reducible apply Own.set_at); (focus (show _ ≤ _; omega))))); have hG := hF; clear hF; clear hO; intro hO; refine own_pick (k := 3) hO hr0 (by omega) (by omega) (by omega) ?_; clear hO; intro x w1 x0 x1 hO; (try simp only [World.size_alloc1, World.size_drew, Nat.reduceAdd] at hO); (try simp only [upd, updI, List.map_cons, List.map_nil, eq_self, if_true, if_false, reduceIte, Nat.add_eq_left, Nat.left_eq_add, Nat.reduceEqDiff, List.set_cons_zero, List.set_cons_succ, hG] at hO); clear hG; have hF := hO; (try simp only [Own, Item.Holds, apartI, CellsAt, Nat.reduceAdd, Nat.zero_add, List.mem_cons, List.not_mem_nil, or_false, forall_eq_or_imp, forall_eq, ne_eq, false_imp_iff, implies_true, and_true] at hF))
  have wx : IntKind.i64.wrap (1 + x) = 1 + x := IntWalk.i64_in _ (by omega)
  replace hO := hO.perm (List.Perm.swap _ _ _)
  go_wp2_with fail
  go_loopw [6, 7, 8] (fun u v t wr => ∃ (m : Int) (bs : List Pt) (gs : List Int), 0 ≤ m ∧ m ≤ 3 ∧ t = .int .i64 m ∧ 1 ≤ (bs.length : Int) + m ∧ (bs.length : Int) + m ≤ 3 ∧ gs.length = bs.length ∧ Hid (∀ x ∈ bs, baOk f x) ∧ Hid (∀ g ∈ gs, 4 ≤ g ∧ g ≤ 9) ∧ Own w.heap.size (Bd r w (P + 2 + 5 * (3 - m))) wr [.row 29 3 u bs.length (pcC bs), .row 3 1 v gs.length (intC gs)]) (fun _ _ t _ => (intOf t).toNat)
  case atStart => exact ⟨1 + x, [], [], by omega, by omega, rfl, by simp; omega, by simp; omega, rfl, fun z hz => (by cases hz), fun z hz => (by cases hz), hO.mono hr0 (by omega)⟩
  case round =>
    clear hO hF x0 x1 wx
    obtain ⟨m, bs, gs, m0, m1, rfl, hl1, hl2, hgl, hbs, hgs, hO⟩ := hrel
    have hF := True.intro
    have wm : IntKind.i64.wrap (m - 1) = m - 1 := IntWalk.i64_in _ (by omega)
    by_cases hm : m = 0
    · subst hm
      have hgp : 0 < gs.length := by omega
      obtain ⟨n, hn⟩ : ∃ n, gs.length = n := ⟨_, rfl⟩
      rw [hn] at hO hgp hgl
      have HG := hid hn
      have HL := hid (And.intro hl1 (And.intro hl2 hgl))
      clear wm hn hl1 hl2 hgl
      go_wp2_with fail
      (go_at_call 68; apply own_at hO; (repeat (first | (with_reducible exact hO) | (with_reducible apply Own.alloc) | (with_reducible apply Own.drew) | ((with_reducible apply Own.set_at); (focus (show _ ≤ _; omega))))); have hG := hF; clear hF; clear hO; intro hO; refine own_odd hO hr0 (by omega) (by omega) (by omega) ?_; clear hO; intro x w1 hO; (try simp only [World.size_alloc1, World.size_drew, Nat.reduceAdd] at hO); (try simp only [upd, updI, List.map_cons, List.map_nil, eq_self, if_true, if_false, reduceIte, Nat.add_eq_left, Nat.left_eq_add, Nat.reduceEqDiff, List.set_cons_zero, List.set_cons_succ, hG] at hO); clear hG; have hF := hO; (try simp only [Own, Item.Holds, apartI, CellsAt, Nat.reduceAdd, Nat.zero_add, List.mem_cons, List.not_mem_nil, or_false, forall_eq_or_imp, forall_eq, ne_eq, false_imp_iff, implies_true, and_true] at hF))
      cases x
      · go_wp2_with fail
        go_ret3
        exact ⟨f, _, _, bs, gs, HFB.out, hbs.out, by have := HL.out; omega, by have := HL.out; have := HG.out; omega, hgs.out, rfl, by rw [HG.out]; exact hO.mono hr0 (by omega)⟩
      · go_wp2_with fail
        (go_at_call 65; apply own_at hO; (repeat (first | (with_reducible exact hO) | (with_reducible apply Own.alloc) | (with_reducible apply Own.drew) | ((with_reducible apply Own.set_at); (focus (show _ ≤ _; omega))))); have hG := hF; clear hF; clear hO; intro hO; refine own_pick (k := 3) hO hr0 (by omega) (by omega) (by omega) ?_; clear hO; intro x w1 x0 x1 hO; (try simp only [World.size_alloc1, World.size_drew, Nat.reduceAdd] at hO); (try simp only [upd, updI, List.map_cons, List.map_nil, eq_self, if_true, if_false, reduceIte, Nat.add_eq_left, Nat.left_eq_add, Nat.reduceEqDiff, List.set_cons_zero, List.set_cons_succ, hG] at hO); clear hG; have hF := hO; (try simp only [Own, Item.Holds, apartI, CellsAt, Nat.reduceAdd, Nat.zero_add, List.mem_cons, List.not_mem_nil, or_false, forall_eq_or_imp, forall_eq, ne_eq, false_imp_iff, implies_true, and_true] at hF))
        rcases (show x = 0 ∨ x = 1 ∨ x = 2 by omega) with rfl | rfl | rfl
        · clear x0 x1
          have hn4 : n ≤ 3 := by have := HL.out; omega
          go_wp2_with (at_builtin; apply own_list hO; (repeat (first | (with_reducible exact hO) | (with_reducible apply Own.alloc) | (with_reducible apply Own.drew) | ((with_reducible apply Own.set_at); (focus (show _ ≤ _; omega))))); have hG := hF; clear hF; clear hO; intro hO; (try simp only [World.size_alloc1, World.size_drew, Nat.reduceAdd] at hO); (try simp only [upd, updI, List.map_cons, List.map_nil, eq_self, if_true, if_false, reduceIte, Nat.add_eq_left, Nat.left_eq_add, Nat.reduceEqDiff, List.set_cons_zero, List.set_cons_succ, hG] at hO); clear hG; (try simp only [World.size_setCell] at hO); have hF := hO; (try simp only [Own, Item.Holds, apartI, CellsAt, Nat.reduceAdd, Nat.zero_add, List.mem_cons, List.not_mem_nil, or_false, forall_eq_or_imp, forall_eq, ne_eq, false_imp_iff, implies_true, and_true] at hF); replace hO := hO.perm (List.Perm.cons _ (List.Perm.swap _ _ _)); refine wpList_append_item rfl _ _ 60 rfl 3 i1 (.int .i64 0) 1 8 Tryd.underlying60 hi1 hy0 hy1 hy2 rfl (by decide) rfl rfl hO rfl one1g (by unfold maxLen; omega) (by omega) ?_; clear hO hF; intro v' w3 hO _; replace hO := hO.perm (List.Perm.swap _ _ _); have hF := True.intro)
          go_ret3
          exact ⟨f, _, _, bs, gs ++ [5], HFB.out, hbs.out, by have := HL.out; omega, by have := HL.out; have := HG.out; simp; omega, all_snocI (p := fun g => 4 ≤ g ∧ g ≤ 9) hgs.out (by omega), rfl, by rw [← intC_add, List.length_append, HG.out]; exact hO.mono hr0 (by omega)⟩
        · clear x0 x1
          replace hO := hO.perm (List.Perm.swap _ _ _)
          obtain ⟨q, cap, hv1, hq1, hq2⟩ := hO.row_open hgp
          subst hv1
          obtain ⟨z, hz⟩ : ∃ z, gs[0]? = some z := ⟨_, List.getElem?_eq_getElem (by have := HG.out; omega)⟩
          have c0 := hO.row_cell (i := 0) (u := .int .i64 z) (by unfold intC; rw [List.getElem?_map, hz]; rfl)
          have r0 := hO.row_free 0
          have hO2 := hO.row_set 0 (.int .i64 9)
          have HS := hid (show (intC gs).set 0 (.int .i64 9) = intC (gs.set 0 9) by unfold intC; rw [List.map_set])
          rw [HS.out] at hO2
          replace hO2 := hO2.perm (List.Perm.swap _ _ _)
          have hgp2 : (0 : Int) < (n : Int) := by omega
          clear hO hz
          go_wp2_with fail
          go_ret3
          exact ⟨f, _, _, bs, gs.set 0 9, HFB.out, hbs.out, by have := HL.out; omega, by have := HL.out; have := HG.out; simp; omega, fun g hg => by
            rcases List.mem_or_eq_of_mem_set hg with h | rfl
            · exact hgs.out g h
            · omega, rfl, by rw [List.length_set, HG.out]; exact hO2.mono (Q := P + 30) hr0 (by omega)⟩
        · clear x0 x1
          go_wp2_with fail
          have hO2 := ((hO.drop.drop).allocRow (e := 29) (cur := #[]) (k := 0) (cap := 0) 3 (by omega) (by unfold maxLen; omega) rfl).allocRow (e := 3) (cur := #[]) (k := 0) (cap := 0) 1 (by omega) (by unfold maxLen; omega) rfl
          replace hO2 := hO2.perm (List.Perm.swap _ _ _)
          clear hO
          go_ret3
          exact ⟨f, _, _, [], [], HFB.out, fun z hz => (by cases hz), by simp, by simp, fun z hz => (by cases hz), rfl, by have := hO2.mono (Q := P + 30) hr0 (by omega); simpa [pcC, intC] using this⟩
    · have hm1 : 0 < m := by omega
      clear hm
      go_wp2_with fail
      (go_at_call 102; apply own_at hO; (repeat (first | (with_reducible exact hO) | (with_reducible apply Own.alloc) | (with_reducible apply Own.drew) | ((with_reducible apply Own.set_at); (focus (show _ ≤ _; omega))))); have hG := hF; clear hF; clear hO; intro hO; refine own_bass hO hr0 (by omega) ?_; clear hO; intro s o w1 hs ho hO; (try simp only [World.size_alloc1, World.size_drew, Nat.reduceAdd] at hO); (try simp only [upd, updI, List.map_cons, List.map_nil, eq_self, if_true, if_false, reduceIte, Nat.add_eq_left, Nat.left_eq_add, Nat.reduceEqDiff, List.set_cons_zero, List.set_cons_succ, hG] at hO); clear hG; have hF := hO; (try simp only [Own, Item.Holds, apartI, CellsAt, Nat.reduceAdd, Nat.zero_add, List.mem_cons, List.not_mem_nil, or_false, forall_eq_or_imp, forall_eq, ne_eq, false_imp_iff, implies_true, and_true] at hF))
      have HB := hid (ba_of HFB.out hs ho)
      obtain ⟨a, ha⟩ : ∃ a, kaZ f s = a := ⟨_, rfl⟩
      rw [ha] at HB ⊢
      clear ha hs ho
      go_wp2_with (at_builtin; apply own_list hO; (repeat (first | (with_reducible exact hO) | (with_reducible apply Own.alloc) | (with_reducible apply Own.drew) | ((with_reducible apply Own.set_at); (focus (show _ ≤ _; omega))))); have hG := hF; clear hF; clear hO; intro hO; (try simp only [World.size_alloc1, World.size_drew, Nat.reduceAdd] at hO); (try simp only [upd, updI, List.map_cons, List.map_nil, eq_self, if_true, if_false, reduceIte, Nat.add_eq_left, Nat.left_eq_add, Nat.reduceEqDiff, List.set_cons_zero, List.set_cons_succ, hG] at hO); clear hG; (try simp only [World.size_setCell] at hO); have hF := hO; (try simp only [Own, Item.Holds, apartI, CellsAt, Nat.reduceAdd, Nat.zero_add, List.mem_cons, List.not_mem_nil, or_false, forall_eq_or_imp, forall_eq, ne_eq, false_imp_iff, implies_true, and_true] at hF); refine wpList_append_item rfl _ _ 23 rfl 29 i0 (.agg #[.int .i64 0, .int .i64 0, .int .i64 0]) 3 24 Tryd.underlying23 hi0 hz0 hz1 hz2 rfl (by decide) rfl rfl hO rfl one3t (by unfold maxLen; omega) (by omega) ?_; clear hO hF; intro v' w3 hO _; have hF := True.intro)
      (go_at_call 65; apply own_at hO; (repeat (first | (with_reducible exact hO) | (with_reducible apply Own.alloc) | (with_reducible apply Own.drew) | ((with_reducible apply Own.set_at); (focus (show _ ≤ _; omega))))); have hG := hF; clear hF; clear hO; intro hO; refine own_pick (k := 5) hO hr0 (by omega) (by omega) (by omega) ?_; clear hO; intro x w1 x0 x1 hO; (try simp only [World.size_alloc1, World.size_drew, Nat.reduceAdd] at hO); (try simp only [upd, updI, List.map_cons, List.map_nil, eq_self, if_true, if_false, reduceIte, Nat.add_eq_left, Nat.left_eq_add, Nat.reduceEqDiff, List.set_cons_zero, List.set_cons_succ, hG] at hO); clear hG; have hF := hO; (try simp only [Own, Item.Holds, apartI, CellsAt, Nat.reduceAdd, Nat.zero_add, List.mem_cons, List.not_mem_nil, or_false, forall_eq_or_imp, forall_eq, ne_eq, false_imp_iff, implies_true, and_true] at hF); obtain ⟨z, hz, hc⟩ := hO.num_in (lo := 4) (hi := 9) (x := x) [5, 5, 6, 4, 7] List.mem_cons_self x0 (by simpa using x1) (by decide))
      have HZ := hid hz
      clear hz
      go_wp2_with (at_builtin; apply own_list hO; (repeat (first | (with_reducible exact hO) | (with_reducible apply Own.alloc) | (with_reducible apply Own.drew) | ((with_reducible apply Own.set_at); (focus (show _ ≤ _; omega))))); have hG := hF; clear hF; clear hO; intro hO; (try simp only [World.size_alloc1, World.size_drew, Nat.reduceAdd] at hO); (try simp only [upd, updI, List.map_cons, List.map_nil, eq_self, if_true, if_false, reduceIte, Nat.add_eq_left, Nat.left_eq_add, Nat.reduceEqDiff, List.set_cons_zero, List.set_cons_succ, hG] at hO); clear hG; (try simp only [World.size_setCell] at hO); have hF := hO; (try simp only [Own, Item.Holds, apartI, CellsAt, Nat.reduceAdd, Nat.zero_add, List.mem_cons, List.not_mem_nil, or_false, forall_eq_or_imp, forall_eq, ne_eq, false_imp_iff, implies_true, and_true] at hF); replace hO := Own.sub (.cons_cons _ (.cons _ (List.Sublist.refl _))) hO; replace hO := hO.perm (List.Perm.cons _ (List.Perm.swap _ _ _)); refine wpList_append_item rfl _ _ 60 rfl 3 i1 (.int .i64 0) 1 8 Tryd.underlying60 hi1 hy0 hy1 hy2 rfl (by decide) rfl rfl hO rfl one1g (by unfold maxLen; omega) (by omega) ?_; clear hO hF; intro v' w3 hO _; replace hO := hO.perm (List.Perm.swap _ _ _); have hF := True.intro)
      go_roundw
      case rel => exact ⟨m - 1, bs ++ [⟨s, a, o⟩], gs ++ [z], by omega, by omega, rfl, by simp; omega, by simp; omega, by simp [hgl], all_snocP hbs.out HB.out, all_snocI (p := fun g => 4 ≤ g ∧ g ≤ 9) hgs.out HZ.out, by rw [← intC_add, List.length_append, List.length_append, pcC_append]; exact hO.mono hr0 (by omega)⟩
      case measure => simp [intOf]; omega

/-- What drawing a bass for a law leaves. -/
def DrewRb (w : World) (e : Ending) (w' : World) : Prop :=
  ∃ (f : Int) (u v : Value) (bs : List Pt) (gs : List Int), (-3 ≤ f ∧ f ≤ 3) ∧ (∀ x ∈ bs, baOk f x) ∧ bs.length ≤ 3 ∧ gs.length ≤ 4 ∧ (∀ g ∈ gs, 4 ≤ g ∧ g ≤ 9) ∧ e = .returned (.tuple #[.int .i64 f, u, v]) ∧
    SlAt w' u bs.length 3 (pcC bs) ∧ SlAt w' v gs.length 1 (intC gs) ∧ Below w.heap.size w w'
set_option maxHeartbeats 1000000 in
theorem DrawRealizeBass_any (v : Value) (n : Nat) (w : World) (hn : n ≤ maxLen) (h : BytesB w w.heap.size v n) :
    Calls Tryd.prog 40 #[v] w (DrewRb w) := by
  go_enter Tryd.func40, Tryd.ntmps40
  go_wp2_with fail
  refine (open_any v n _ hn h).mono ?_
  rintro e w1 ⟨r, hr, rfl, hR, hb⟩
  go_wp2_with fail
  refine (l20Figures_any r 0 _ hR (by omega)).mono ?_
  rintro e w2 ⟨f, u, v', bs, gs, hf, hbs, hl1, hl2, hgs, rfl, hO⟩
  have HO := hid (And.intro (SlAt.of_row hO.1.1) (And.intro (SlAt.of_row hO.2.1.1) (hO.base.1.below hb hr)))
  have HV := hid (And.intro hf (And.intro hbs (And.intro hl1 (And.intro hl2 hgs))))
  clear hR hb h hn hr hO hf hbs hl1 hl2 hgs
  go_wp2
  go_ret3
  exact ⟨f, u, v', bs, gs, HV.out.1, HV.out.2.1, HV.out.2.2.1, HV.out.2.2.2.1, HV.out.2.2.2.2, rfl, HO.out.1, HO.out.2.1, HO.out.2.2⟩
end Go.Proofs.YtfdglkiehkilnaaDoor
