/- The functions that draw for a law of chapter 11: keys and degrees, pitches, degrees. -/
import Derived.Test.YtjfmbklgkmkgjaaDoorDraws10
import Derived.Test.YtjfmbklgkmkgjaaDoorDrawsKey
import Derived.Test.YtjfmbklgkmkgjaaDoorWalks11S
namespace Go.Proofs.YtjfmbklgkmkgjaaDoor
set_option linter.unusedSimpArgs false
set_option linter.unusedVariables false
set_option maxRecDepth 8000
open Go.RowKit

/-- A key, whether it is minor, a degree and whether a seventh is asked for are drawn. -/
def DrewCo (w : World) (e : Ending) (w' : World) : Prop :=
  ∃ (f : Int) (m : Bool) (d : Int) (sv : Bool), (-8 ≤ f ∧ f ≤ 8) ∧ (-1 ≤ d ∧ d ≤ 7) ∧ e = .returned (.tuple #[.int .i64 f, .bool m, .int .i64 d, .bool sv]) ∧ Below w.heap.size w w'
/-- A key, whether it is minor, and pitches are drawn. -/
def DrewDc (w : World) (e : Ending) (w' : World) : Prop :=
  ∃ (f : Int) (m : Bool) (u : Value) (l : List Pt), (-8 ≤ f ∧ f ≤ 8) ∧ (∀ x ∈ l, ptOk x) ∧ l.length ≤ 13 ∧ e = .returned (.tuple #[.int .i64 f, .bool m, u]) ∧ SlAt w' u l.length 3 (pcC l) ∧ Below w.heap.size w w'

set_option maxHeartbeats 2000000 in
theorem DrawChordOn_any (v : Value) (n : Nat) (w : World) (hn : n ≤ maxLen) (h : BytesB w w.heap.size v n) :
    Calls Tryd.prog 21 #[v] w (DrewCo w) := by
  go_enter Tryd.func21, Tryd.ntmps21
  go_wp2_with fail
  refine (open_any v n _ hn h).mono ?_
  rintro e w1 ⟨r, hr, rfl, hR, hb⟩
  go_wp2_with fail
  refine (l20Fifths_any r 0 _ _ hR (by omega) (by omega) (by omega)).mono ?_
  rintro e w2 ⟨f, hf, rfl, hR2, hB2⟩
  have hb2 := hB2.below hb hr
  go_wp2_with fail
  refine (pick_any r (0 + 4) 2 _ hR2 (by omega) (by omega) (by omega)).mono ?_
  rintro e w3 ⟨x, x0, x1, rfl, hR3, hB3⟩
  have hb3 := hB3.below hb2 hr
  go_wp2_with fail
  refine (pick_any r (0 + 4 + 1) 8 _ hR3 (by omega) (by omega) (by omega)).mono ?_
  rintro e w4 ⟨y, y0, y1, rfl, hR4, hB4⟩
  have hb4 := hB4.below hb3 hr
  go_wp2_with fail
  refine (pick_any r (0 + 4 + 1 + 1) 9 _ hR4 (by omega) (by omega) (by omega)).mono ?_
  rintro e w5 ⟨z, z0, z1, rfl, hR5, hB5⟩
  have hb5 := hB5.below hb4 hr
  go_wp2_with fail
  refine (pick_any r (0 + 4 + 1 + 1 + 1) 2 _ hR5 (by omega) (by omega) (by omega)).mono ?_
  rintro e w6 ⟨g, g0, g1, rfl, hR6, hB6⟩
  have hb6 := hB6.below hb5 hr
  clear hR hR2 hR3 hR4 hR5 hR6 hB2 hB3 hB4 hB5 hB6 hb hb2 hb3 hb4 hb5
  have q0 : 0 ≤ z / 8 := by omega
  have q1 : z / 8 ≤ 1 := by omega
  have hO := (Own.start w).below hb6
  have hF := True.intro
  go_wp2
  apply own_end hO
  (repeat (first | (with_reducible exact hO) | (with_reducible apply Own.alloc) | (with_reducible apply Own.drew) | ((with_reducible apply Own.set_at); (focus (show _ ≤ _; omega)))))
  have hG := hF; clear hF; clear hO; intro hO
  refine own_ret (v := .tuple #[.int .i64 f, .bool (x == 0), .int .i64 (y - z / 8), .bool (g == 0)]) hO ?_ rfl (fun hO => ⟨f, _, y - z / 8, _, hf, by omega, rfl, hO.base⟩)
  clear hO; intro w1 hO
  (try simp only [World.size_alloc1, World.size_drew, Nat.reduceAdd] at hO); (try simp only [upd, updI, List.map_cons, List.map_nil, eq_self, if_true, if_false, reduceIte, Nat.add_eq_left, Nat.left_eq_add, Nat.reduceEqDiff, List.set_cons_zero, List.set_cons_succ, hG] at hO); clear hG
  have hF := hO; (try simp only [Own, Item.Holds, apartI, CellsAt, Nat.reduceAdd, Nat.zero_add, List.mem_cons, List.not_mem_nil, or_false, forall_eq_or_imp, forall_eq, ne_eq, false_imp_iff, implies_true, and_true] at hF)
  simp [results, Tryd.results21, go_sem, hF]

set_option maxHeartbeats 2000000 in
theorem DrawDegreeOfChord_any (v : Value) (n : Nat) (w : World) (hn : n ≤ maxLen) (h : BytesB w w.heap.size v n) :
    Calls Tryd.prog 27 #[v] w (DrewDc w) := by
  go_enter Tryd.func27, Tryd.ntmps27
  go_wp2_with fail
  refine (open_any v n _ hn h).mono ?_
  rintro e w1 ⟨r, hr, rfl, hR, hb⟩
  go_wp2_with fail
  refine (l20Fifths_any r 0 _ _ hR (by omega) (by omega) (by omega)).mono ?_
  rintro e w2 ⟨f, hf, rfl, hR2, hB2⟩
  have hb2 := hB2.below hb hr
  go_wp2_with fail
  refine (pick_any r (0 + 4) 2 _ hR2 (by omega) (by omega) (by omega)).mono ?_
  rintro e w3 ⟨x, x0, x1, rfl, hR3, hB3⟩
  have hb3 := hB3.below hb2 hr
  go_wp2_with fail
  refine (pick_any r (0 + 4 + 1) 3 _ hR3 (by omega) (by omega) (by omega)).mono ?_
  rintro e w4 ⟨y, y0, y1, rfl, hR4, hB4⟩
  have hb4 := hB4.below hb3 hr
  clear hR hR2 hR3 hB2 hB3 hB4 hb hb2 hb3
  obtain ⟨m, hm⟩ : ∃ m : Bool, (x == 0) = m := ⟨_, rfl⟩
  by_cases hy : y = 0
  · subst hy
    go_wp2_with fail
    refine (l20Chord_any r _ _ hR4 (by omega)).mono ?_
    rintro e w5 ⟨u, l, hv, hl, rfl, ho, hR5, hB5⟩
    have HO := hid (And.intro ho (hB5.below hb4 hr))
    have HV := hid (And.intro hf hv)
    clear hR4 hR5 hB5 hb4 ho hv hf h hn
    go_wp2
    go_ret3
    exact ⟨f, m, u, l, HV.out.1, HV.out.2, hl, rfl, HO.out.1, HO.out.2⟩
  · have hy2 : 0 < y := by omega
    clear hy
    go_wp2_with fail
    refine (pick_any r (0 + 4 + 1 + 1) 7 _ hR4 (by omega) (by omega) (by omega)).mono ?_
    rintro e w5 ⟨d, d0, d1, rfl, hR5, hB5⟩
    have hb5 := hB5.below hb4 hr
    go_wp2_with fail
    refine (pick_any r (0 + 4 + 1 + 1 + 1) 2 _ hR5 (by omega) (by omega) (by omega)).mono ?_
    rintro e w6 ⟨g, g0, g1, rfl, hR6, hB6⟩
    have hb6 := hB6.below hb5 hr
    obtain ⟨sv, hsv⟩ : ∃ m : Bool, (g == 0) = m := ⟨_, rfl⟩
    clear hR4 hR5 hR6 hB5 hB6 hb4 hb5
    go_wp2_with fail
    refine (coS_any f d m sv _).mono ?_
    rintro e w7 ⟨u, rfl, hrow, hb7⟩
    have HO := hid (And.intro (SlAt.of_row hrow) (btr hb6 hb7))
    have HV := hid hf
    have HL := hid (And.intro (coL_all f m d sv) (coL_len f m d sv))
    clear hb6 hb7 hrow hf h hn
    go_wp2
    go_ret3
    exact ⟨f, m, u, _, HV.out, fun z hz => ptOk_pv (List.all_eq_true.1 HL.out.1 z hz), by have := HL.out.2; omega, rfl, HO.out.1, HO.out.2⟩

theorem infoI11 : (Tryd.prog.info? 3).map (fun i => (i.zero, i.size, i.bytes)) = some (some (.int .i64 0), 1, 8) := by kernel_rfl
theorem one1d {x : Int} : ∀ u ∈ [Value.int .i64 x], u.oneCell' = true := by
  intro u hu
  simp at hu
  subst hu
  rfl
/-- What is known of a drawn degree. -/
def dgOk (d : Int) : Prop := -1 ≤ d ∧ d ≤ 7
theorem dg_snoc {v : List Int} {x : Int} (hv : ∀ z ∈ v, dgOk z) (hx : dgOk x) : ∀ z ∈ v ++ [x], dgOk z := fun z hz => by
  rcases List.mem_append.1 hz with h | h
  · exact hv z h
  · simp at h; subst h; exact hx
theorem intC_snoc (u : List Int) (x : Int) : intC u ++ [.int .i64 x] = intC (u ++ [x]) := by simp [intC]
/-- What drawing degrees leaves. -/
def DrewDs (r : Nat) (P : Int) (w : World) (e : Ending) (w' : World) : Prop :=
  ∃ (u : Value) (l : List Int), (∀ x ∈ l, dgOk x) ∧ l.length ≤ 8 ∧ e = .returned u ∧ SlAt w' u l.length 1 (intC l) ∧ Rd w' r (P + 200) ∧ ButR r w w'
theorem DrewDs.mk {r : Nat} {P Q : Int} {w w' : World} {u : Value} {l : List Int} {L : List Item} (hO : Own w.heap.size (Bd r w Q) w' (.row 3 1 u l.length (intC l) :: L)) (hQ : Q ≤ P + 200) (hv : ∀ x ∈ l, dgOk x) (hl : l.length ≤ 8) : DrewDs r P w (.returned u) w' :=
  ⟨u, l, hv, hl, rfl, SlAt.of_row hO.1.1, hO.base.2.mono hQ, hO.base.1⟩

set_option maxRecDepth 8000 in
set_option maxHeartbeats 4000000 in
theorem l20Degrees_any (r : Nat) (P : Int) (w : World) (h : Rd w r P) (hP : P ≤ 700000) :
    Calls Tryd.prog 77 #[.pointer (some ⟨r, 0, none⟩)] w (DrewDs r P w) := by
  have hr0 := h.lt
  have hO := Own.startD h
  have hF := True.intro
  obtain ⟨i0, hi0, hz0, hz1, hz2⟩ := info_parts infoI11
  clear h
  go_enter Tryd.func77, Tryd.ntmps77
  go_wp2_with fail
  replace hO := hO.allocRow (e := 3) (cur := #[]) (k := 0) (cap := 0) 1 (by omega) (by unfold maxLen; omega) rfl
  (go_at_call 47; apply own_at hO; (repeat (first | (with_reducible exact hO) | (with_reducible apply Own.alloc) | (with_reducible apply Own.drew) | ((with_reducible apply Own.set_at); (focus (show _ ≤ _; omega))))); have hG := hF; clear hF; clear hO; intro hO; refine own_pick (k := 8) hO hr0 (by omega) (by omega) (by omega) ?_; clear hO; intro x w1 x0 x1 hO; (try simp only [World.size_alloc1, World.size_drew, Nat.reduceAdd] at hO); (try simp only [upd, updI, List.map_cons, List.map_nil, eq_self, if_true, if_false, reduceIte, Nat.add_eq_left, Nat.left_eq_add, Nat.reduceEqDiff, List.set_cons_zero, List.set_cons_succ, hG] at hO); clear hG; have hF := hO; (try simp only [Own, Item.Holds, apartI, CellsAt, Nat.reduceAdd, Nat.zero_add, List.mem_cons, List.not_mem_nil, or_false, forall_eq_or_imp, forall_eq, ne_eq, false_imp_iff, implies_true, and_true] at hF))
  go_wp2_with fail
  go_loopw [3, 4] (fun u t wr => ∃ (m : Int) (v : List Int), 0 ≤ m ∧ m ≤ 7 ∧ t = .int .i64 m ∧ (v.length : Int) + m ≤ 7 ∧ Hid (∀ x ∈ v, dgOk x) ∧ Own w.heap.size (Bd r w (P + 1 + 5 * (7 - m))) wr [.row 3 1 u v.length (intC v)]) (fun _ t _ => (intOf t).toNat)
  case atStart => exact ⟨x, [], x0, by omega, rfl, by simp; omega, fun z hz => (by cases hz), hO.mono hr0 (by omega)⟩
  case round =>
    clear hO hF x0 x1
    obtain ⟨m, v, m0, m1, rfl, hvm, hv, hO⟩ := hrel
    have hF := True.intro
    have w1' : IntKind.i64.wrap (m - 1) = m - 1 := IntWalk.i64_in _ (by omega)
    by_cases hm : m = 0
    · subst hm
      clear w1'
      go_wp2_with fail
      (go_at_call 84; apply own_at hO; (repeat (first | (with_reducible exact hO) | (with_reducible apply Own.alloc) | (with_reducible apply Own.drew) | ((with_reducible apply Own.set_at); (focus (show _ ≤ _; omega))))); have hG := hF; clear hF; clear hO; intro hO; refine own_odd hO hr0 (by omega) (by omega) (by omega) ?_; clear hO; intro x w1 hO; (try simp only [World.size_alloc1, World.size_drew, Nat.reduceAdd] at hO); (try simp only [upd, updI, List.map_cons, List.map_nil, eq_self, if_true, if_false, reduceIte, Nat.add_eq_left, Nat.left_eq_add, Nat.reduceEqDiff, List.set_cons_zero, List.set_cons_succ, hG] at hO); clear hG; have hF := hO; (try simp only [Own, Item.Holds, apartI, CellsAt, Nat.reduceAdd, Nat.zero_add, List.mem_cons, List.not_mem_nil, or_false, forall_eq_or_imp, forall_eq, ne_eq, false_imp_iff, implies_true, and_true] at hF))
      replace hO := hO.mono (Q := P + 100) hr0 (by omega)
      cases x
      · go_wp2_with fail
        go_ret
        exact DrewDs.mk hO (by omega) hv.out (by omega)
      · go_wp2_with fail
        (go_at_call 47; apply own_at hO; (repeat (first | (with_reducible exact hO) | (with_reducible apply Own.alloc) | (with_reducible apply Own.drew) | ((with_reducible apply Own.set_at); (focus (show _ ≤ _; omega))))); have hG := hF; clear hF; clear hO; intro hO; refine own_pick (k := 2) hO hr0 (by omega) (by omega) (by omega) ?_; clear hO; intro x w1 x0 x1 hO; (try simp only [World.size_alloc1, World.size_drew, Nat.reduceAdd] at hO); (try simp only [upd, updI, List.map_cons, List.map_nil, eq_self, if_true, if_false, reduceIte, Nat.add_eq_left, Nat.left_eq_add, Nat.reduceEqDiff, List.set_cons_zero, List.set_cons_succ, hG] at hO); clear hG; have hF := hO; (try simp only [Own, Item.Holds, apartI, CellsAt, Nat.reduceAdd, Nat.zero_add, List.mem_cons, List.not_mem_nil, or_false, forall_eq_or_imp, forall_eq, ne_eq, false_imp_iff, implies_true, and_true] at hF); obtain ⟨z, hz, hc⟩ := hO.num_in (lo := -1) (hi := 7) (x := x) [-1, 7] List.mem_cons_self x0 (by simpa using x1) (by decide))
        have HZ := hid hz
        clear hz
        go_wp2_with (at_builtin; apply own_list hO; (repeat (first | (with_reducible exact hO) | (with_reducible apply Own.alloc) | (with_reducible apply Own.drew) | ((with_reducible apply Own.set_at); (focus (show _ ≤ _; omega))))); have hG := hF; clear hF; clear hO; intro hO; (try simp only [World.size_alloc1, World.size_drew, Nat.reduceAdd] at hO); (try simp only [upd, updI, List.map_cons, List.map_nil, eq_self, if_true, if_false, reduceIte, Nat.add_eq_left, Nat.left_eq_add, Nat.reduceEqDiff, List.set_cons_zero, List.set_cons_succ, hG] at hO); clear hG; (try simp only [World.size_setCell] at hO); have hF := hO; (try simp only [Own, Item.Holds, apartI, CellsAt, Nat.reduceAdd, Nat.zero_add, List.mem_cons, List.not_mem_nil, or_false, forall_eq_or_imp, forall_eq, ne_eq, false_imp_iff, implies_true, and_true] at hF); replace hO := Own.sub (.cons_cons _ (.cons _ (List.Sublist.refl _))) hO; refine wpList_append_item rfl _ _ 45 rfl 3 i0 (.int .i64 0) 1 8 Tryd.underlying45 hi0 hz0 hz1 hz2 rfl (by decide) rfl rfl hO rfl one1d (by unfold maxLen; omega) (by omega) ?_; clear hO hF; intro v' w3 hO _; have hF := True.intro)
        go_ret
        rw [show v.length + 1 = (v ++ [z]).length by simp, intC_snoc] at hO
        exact DrewDs.mk hO (by omega) (dg_snoc hv.out HZ.out) (by simp; omega)
    · have hm1 : 0 < m := by omega
      clear hm
      go_wp2_with fail
      (go_at_call 47; apply own_at hO; (repeat (first | (with_reducible exact hO) | (with_reducible apply Own.alloc) | (with_reducible apply Own.drew) | ((with_reducible apply Own.set_at); (focus (show _ ≤ _; omega))))); have hG := hF; clear hF; clear hO; intro hO; refine own_pick (k := 7) hO hr0 (by omega) (by omega) (by omega) ?_; clear hO; intro x w1 x0 x1 hO; (try simp only [World.size_alloc1, World.size_drew, Nat.reduceAdd] at hO); (try simp only [upd, updI, List.map_cons, List.map_nil, eq_self, if_true, if_false, reduceIte, Nat.add_eq_left, Nat.left_eq_add, Nat.reduceEqDiff, List.set_cons_zero, List.set_cons_succ, hG] at hO); clear hG; have hF := hO; (try simp only [Own, Item.Holds, apartI, CellsAt, Nat.reduceAdd, Nat.zero_add, List.mem_cons, List.not_mem_nil, or_false, forall_eq_or_imp, forall_eq, ne_eq, false_imp_iff, implies_true, and_true] at hF); obtain ⟨y, rfl⟩ : ∃ y, y = x := ⟨_, rfl⟩; have y0 := x0; have y1 := x1; clear x0 x1)
      go_wp2_with fail
      (go_at_call 47; apply own_at hO; (repeat (first | (with_reducible exact hO) | (with_reducible apply Own.alloc) | (with_reducible apply Own.drew) | ((with_reducible apply Own.set_at); (focus (show _ ≤ _; omega))))); have hG := hF; clear hF; clear hO; intro hO; refine own_pick (k := 4) hO hr0 (by omega) (by omega) (by omega) ?_; clear hO; intro x w1 x0 x1 hO; (try simp only [World.size_alloc1, World.size_drew, Nat.reduceAdd] at hO); (try simp only [upd, updI, List.map_cons, List.map_nil, eq_self, if_true, if_false, reduceIte, Nat.add_eq_left, Nat.left_eq_add, Nat.reduceEqDiff, List.set_cons_zero, List.set_cons_succ, hG] at hO); clear hG; have hF := hO; (try simp only [Own, Item.Holds, apartI, CellsAt, Nat.reduceAdd, Nat.zero_add, List.mem_cons, List.not_mem_nil, or_false, forall_eq_or_imp, forall_eq, ne_eq, false_imp_iff, implies_true, and_true] at hF); obtain ⟨z, hz, hc⟩ := hO.num_in (lo := 0) (hi := 6) (x := x) [y, 4, 0, 3] List.mem_cons_self x0 (by simpa using x1) (by intro u hu; simp at hu; omega))
      have HZ := hid (show dgOk z by unfold dgOk; omega)
      clear hz y0 y1
      go_wp2_with (at_builtin; apply own_list hO; (repeat (first | (with_reducible exact hO) | (with_reducible apply Own.alloc) | (with_reducible apply Own.drew) | ((with_reducible apply Own.set_at); (focus (show _ ≤ _; omega))))); have hG := hF; clear hF; clear hO; intro hO; (try simp only [World.size_alloc1, World.size_drew, Nat.reduceAdd] at hO); (try simp only [upd, updI, List.map_cons, List.map_nil, eq_self, if_true, if_false, reduceIte, Nat.add_eq_left, Nat.left_eq_add, Nat.reduceEqDiff, List.set_cons_zero, List.set_cons_succ, hG] at hO); clear hG; (try simp only [World.size_setCell] at hO); have hF := hO; (try simp only [Own, Item.Holds, apartI, CellsAt, Nat.reduceAdd, Nat.zero_add, List.mem_cons, List.not_mem_nil, or_false, forall_eq_or_imp, forall_eq, ne_eq, false_imp_iff, implies_true, and_true] at hF); replace hO := Own.sub (.cons_cons _ (.cons _ (List.Sublist.refl _))) hO; refine wpList_append_item rfl _ _ 45 rfl 3 i0 (.int .i64 0) 1 8 Tryd.underlying45 hi0 hz0 hz1 hz2 rfl (by decide) rfl rfl hO rfl one1d (by unfold maxLen; omega) (by omega) ?_; clear hO hF; intro v' w3 hO _; have hF := True.intro)
      go_roundw
      case rel => exact ⟨m - 1, v ++ [z], by omega, by omega, rfl, by simp; omega, dg_snoc hv.out HZ.out, by rw [← intC_snoc, List.length_append]; exact hO.mono hr0 (by omega)⟩
      case measure => simp [intOf]; omega

/-- What drawing degrees for a law leaves. -/
def DrewDl (w : World) (e : Ending) (w' : World) : Prop :=
  ∃ (u : Value) (l : List Int), (∀ x ∈ l, dgOk x) ∧ l.length ≤ 8 ∧ e = .returned u ∧ SlAt w' u l.length 1 (intC l) ∧ Below w.heap.size w w'

set_option maxHeartbeats 1000000 in
theorem DrawProgressionFault_any (v : Value) (n : Nat) (w : World) (hn : n ≤ maxLen) (h : BytesB w w.heap.size v n) :
    Calls Tryd.prog 31 #[v] w (DrewDl w) := by
  go_enter Tryd.func31, Tryd.ntmps31
  go_wp2_with fail
  refine (open_any v n _ hn h).mono ?_
  rintro e w1 ⟨r, hr, rfl, hR, hb⟩
  go_wp2_with fail
  refine (l20Degrees_any r 0 _ hR (by omega)).mono ?_
  rintro e w2 ⟨u, l, hv, hl, rfl, ho, hR2, hB2⟩
  have HO := hid (And.intro ho (hB2.below hb hr))
  have HV := hid hv
  clear hR hb h hn hR2 hB2 ho hv
  go_wp2
  go_ret
  exact ⟨u, l, HV.out, hl, rfl, HO.out.1, HO.out.2⟩

set_option maxHeartbeats 1000000 in
theorem DrawCadenceOf_any (v : Value) (n : Nat) (w : World) (hn : n ≤ maxLen) (h : BytesB w w.heap.size v n) :
    Calls Tryd.prog 34 #[v] w (DrewDl w) := by
  go_enter Tryd.func34, Tryd.ntmps34
  go_wp2_with fail
  refine (open_any v n _ hn h).mono ?_
  rintro e w1 ⟨r, hr, rfl, hR, hb⟩
  go_wp2_with fail
  refine (l20Degrees_any r 0 _ hR (by omega)).mono ?_
  rintro e w2 ⟨u, l, hv, hl, rfl, ho, hR2, hB2⟩
  have HO := hid (And.intro ho (hB2.below hb hr))
  have HV := hid hv
  clear hR hb h hn hR2 hB2 ho hv
  go_wp2
  go_ret
  exact ⟨u, l, HV.out, hl, rfl, HO.out.1, HO.out.2⟩

end Go.Proofs.YtjfmbklgkmkgjaaDoor
