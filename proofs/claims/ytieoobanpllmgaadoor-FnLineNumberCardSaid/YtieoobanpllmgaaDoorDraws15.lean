/- The functions that draw for the laws of chapter 15: a key, a cantus and bounds. -/
import Derived.Test.YtieoobanpllmgaaDoorDraws14
import Derived.Test.YtieoobanpllmgaaDoorRegionD
namespace Go.Proofs.YtieoobanpllmgaaDoor
set_option linter.unusedSimpArgs false
set_option linter.unusedVariables false
set_option maxRecDepth 8000
open Go.RowKit

theorem results4_15 {fn : Func} {t u v x : Tmp} (h : fn.results = #[.tmp t, .tmp u, .tmp v, .tmp x]) (tmps : Array Value) (P : Program) (w : World) :
    (results fn tmps).run P w = .ok (.tuple #[tmps.getD t undef, tmps.getD u undef, tmps.getD v undef, tmps.getD x undef]) w := by
  simp [results, h]
/-- What drawing a key, a cantus and bounds leaves. -/
def DrewSe15 (r : Nat) (P : Int) (w : World) (e : Ending) (w' : World) : Prop :=
  ∃ (f : Int) (u : Value) (c : List Pt) (lo hi : Int), (-3 ≤ f ∧ f ≤ 8) ∧ (∀ x ∈ c, cbOk x) ∧ 1 ≤ c.length ∧ c.length ≤ 6 ∧ (46 ≤ lo ∧ lo ≤ 51) ∧ (lo - 1 ≤ hi ∧ hi ≤ 108) ∧ e = .returned (.tuple #[.int .i64 f, u, .int .i64 lo, .int .i64 hi]) ∧ Own w.heap.size (Bd r w (P + 60)) w' [.row 37 3 u c.length (pcC c)]

set_option maxRecDepth 8000 in
set_option maxHeartbeats 4000000 in
theorem l20Search_any (r : Nat) (P : Int) (w : World) (h : Rd w r P) (hP : P ≤ 600000) :
    Calls Tryd.prog 28 #[.pointer (some ⟨r, 0, none⟩)] w (DrewSe15 r P w) := by
  have hr0 := h.lt
  have hF := True.intro
  go_enter Tryd.func28, Tryd.ntmps28
  go_wp2_with fail
  refine (l20Cantus_any r P 12 _ h (by omega) (by omega) (by omega)).mono ?_
  rintro e w1 ⟨f, u, c, hf, hc, h1, h6, rfl, hO⟩
  have HFB := hid hf
  have HCB := hid (And.intro hc (And.intro h1 h6))
  clear h hf hc h1 h6
  go_wp2_with fail
  (go_at_call 35; apply own_at hO; (repeat (first | (with_reducible exact hO) | (with_reducible apply Own.alloc) | (with_reducible apply Own.drew) | ((with_reducible apply Own.set_at); (focus (show _ ≤ _; omega))))); have hG := hF; clear hF; clear hO; intro hO; refine own_pick (k := 6) hO hr0 (by omega) (by omega) (by omega) ?_; clear hO; intro x w1 x0 x1 hO; (try simp only [World.size_alloc1, World.size_drew, Nat.reduceAdd] at hO); (try simp only [upd, updI, List.map_cons, List.map_nil, eq_self, if_true, if_false, reduceIte, Nat.add_eq_left, Nat.left_eq_add, Nat.reduceEqDiff, List.set_cons_zero, List.set_cons_succ, hG] at hO); clear hG; have hF := hO; (try simp only [Own, Item.Holds, apartI, CellsAt, Nat.reduceAdd, Nat.zero_add, List.mem_cons, List.not_mem_nil, or_false, forall_eq_or_imp, forall_eq, ne_eq, false_imp_iff, implies_true, and_true] at hF))
  obtain ⟨lo, hlo⟩ : ∃ f, 46 + x = f := ⟨_, rfl⟩
  have wl : IntKind.i64.wrap (46 + x) = lo := by rw [hlo]; exact IntWalk.i64_in _ (by omega)
  have hlb : 46 ≤ lo ∧ lo ≤ 51 := by omega
  clear x0 x1 hlo
  have w8 : IntKind.i64.wrap (lo + 8) = lo + 8 := IntWalk.i64_in _ (by omega)
  go_wp2_with fail
  clear wl
  (go_at_call 35; apply own_at hO; (repeat (first | (with_reducible exact hO) | (with_reducible apply Own.alloc) | (with_reducible apply Own.drew) | ((with_reducible apply Own.set_at); (focus (show _ ≤ _; omega))))); have hG := hF; clear hF; clear hO; intro hO; refine own_pick (k := 20) hO hr0 (by omega) (by omega) (by omega) ?_; clear hO; intro x w1 x0 x1 hO; (try simp only [World.size_alloc1, World.size_drew, Nat.reduceAdd] at hO); (try simp only [upd, updI, List.map_cons, List.map_nil, eq_self, if_true, if_false, reduceIte, Nat.add_eq_left, Nat.left_eq_add, Nat.reduceEqDiff, List.set_cons_zero, List.set_cons_succ, hG] at hO); clear hG; have hF := hO; (try simp only [Own, Item.Holds, apartI, CellsAt, Nat.reduceAdd, Nat.zero_add, List.mem_cons, List.not_mem_nil, or_false, forall_eq_or_imp, forall_eq, ne_eq, false_imp_iff, implies_true, and_true] at hF))
  obtain ⟨hi, hhi⟩ : ∃ f, lo + 8 + x = f := ⟨_, rfl⟩
  have wh : IntKind.i64.wrap (lo + 8 + x) = hi := by rw [hhi]; exact IntWalk.i64_in _ (by omega)
  have hhb : lo - 1 ≤ hi ∧ hi ≤ 108 := by omega
  clear x0 x1 hhi
  go_wp2_with fail
  clear wh w8
  (go_at_call 48; apply own_at hO; (repeat (first | (with_reducible exact hO) | (with_reducible apply Own.alloc) | (with_reducible apply Own.drew) | ((with_reducible apply Own.set_at); (focus (show _ ≤ _; omega))))); have hG := hF; clear hF; clear hO; intro hO; refine own_odd hO hr0 (by omega) (by omega) (by omega) ?_; clear hO; intro x w1 hO; (try simp only [World.size_alloc1, World.size_drew, Nat.reduceAdd] at hO); (try simp only [upd, updI, List.map_cons, List.map_nil, eq_self, if_true, if_false, reduceIte, Nat.add_eq_left, Nat.left_eq_add, Nat.reduceEqDiff, List.set_cons_zero, List.set_cons_succ, hG] at hO); clear hG; have hF := hO; (try simp only [Own, Item.Holds, apartI, CellsAt, Nat.reduceAdd, Nat.zero_add, List.mem_cons, List.not_mem_nil, or_false, forall_eq_or_imp, forall_eq, ne_eq, false_imp_iff, implies_true, and_true] at hF))
  cases x
  · go_wp2
    (try simp only [Exit.inBlock, Exit.then])
    refine bodyPost_ret (results4_15 rfl _ _ _) rfl ?_
    exact ⟨f, u, c, lo, hi, HFB.out, HCB.out.1, HCB.out.2.1, HCB.out.2.2, hlb, hhb, rfl, hO.mono hr0 (by omega)⟩
  · have wa : IntKind.i64.wrap (lo - 1) = lo - 1 := IntWalk.i64_in _ (by omega)
    have wb : IntKind.i64.wrap (lo + 31) = lo + 31 := IntWalk.i64_in _ (by omega)
    clear hhb
    go_wp2_with fail
    (go_at_call 35; apply own_at hO; (repeat (first | (with_reducible exact hO) | (with_reducible apply Own.alloc) | (with_reducible apply Own.drew) | ((with_reducible apply Own.set_at); (focus (show _ ≤ _; omega))))); have hG := hF; clear hF; clear hO; intro hO; refine own_pick (k := 3) hO hr0 (by omega) (by omega) (by omega) ?_; clear hO; intro x w1 x0 x1 hO; (try simp only [World.size_alloc1, World.size_drew, Nat.reduceAdd] at hO); (try simp only [upd, updI, List.map_cons, List.map_nil, eq_self, if_true, if_false, reduceIte, Nat.add_eq_left, Nat.left_eq_add, Nat.reduceEqDiff, List.set_cons_zero, List.set_cons_succ, hG] at hO); clear hG; have hF := hO; (try simp only [Own, Item.Holds, apartI, CellsAt, Nat.reduceAdd, Nat.zero_add, List.mem_cons, List.not_mem_nil, or_false, forall_eq_or_imp, forall_eq, ne_eq, false_imp_iff, implies_true, and_true] at hF); obtain ⟨hi9, hm9, hc9⟩ := hO.int_some (x := x) [lo - 1, lo + 31, 108] List.mem_cons_self x0 (by simpa using x1); have hb9 : lo - 1 ≤ hi9 ∧ hi9 ≤ 108 := (by simp at hm9; omega); clear hm9)
    have HB9 := hid hb9
    clear hb9 wa wb
    go_wp2
    (try simp only [Exit.inBlock, Exit.then])
    refine bodyPost_ret (results4_15 rfl _ _ _) rfl ?_
    exact ⟨f, u, c, lo, hi9, HFB.out, HCB.out.1, HCB.out.2.1, HCB.out.2.2, hlb, HB9.out, rfl, (hO.drop).mono hr0 (by omega)⟩

/-- What drawing a key, a cantus and bounds for a law leaves. -/
def DrewSz15 (w : World) (e : Ending) (w' : World) : Prop :=
  ∃ (f : Int) (u : Value) (c : List Pt) (lo hi : Int), (-3 ≤ f ∧ f ≤ 8) ∧ (∀ x ∈ c, cbOk x) ∧ 1 ≤ c.length ∧ c.length ≤ 6 ∧ (46 ≤ lo ∧ lo ≤ 51) ∧ (lo - 1 ≤ hi ∧ hi ≤ 108) ∧ e = .returned (.tuple #[.int .i64 f, u, .int .i64 lo, .int .i64 hi]) ∧ SlAt w' u c.length 3 (pcC c) ∧ Below w.heap.size w w'

set_option maxHeartbeats 1000000 in
theorem DrawCountLines_any (v : Value) (n : Nat) (w : World) (hn : n ≤ maxLen) (h : BytesB w w.heap.size v n) :
    Calls Tryd.prog 10 #[v] w (DrewSz15 w) := by
  go_enter Tryd.func10, Tryd.ntmps10
  go_wp2_with fail
  refine (open_any v n _ hn h).mono ?_
  rintro e w1 ⟨r, hr, rfl, hR, hb⟩
  go_wp2_with fail
  refine (l20Search_any r 0 _ hR (by omega)).mono ?_
  rintro e w2 ⟨f, u, c, lo, hi, hf, hc, h1, h6, hlo, hhi, rfl, hO⟩
  have HO := hid (And.intro (SlAt.of_row hO.1.1) (hO.base.1.below hb hr))
  have HV := hid (And.intro hf (And.intro hc (And.intro h1 (And.intro h6 (And.intro hlo hhi)))))
  clear hR hb h hn hr hO hf hc h1 h6 hlo hhi
  go_wp2
  (try simp only [Exit.inBlock, Exit.then])
  refine bodyPost_ret (results4_15 rfl _ _ _) rfl ?_
  exact ⟨f, u, c, lo, hi, HV.out.1, HV.out.2.1, HV.out.2.2.1, HV.out.2.2.2.1, HV.out.2.2.2.2.1, HV.out.2.2.2.2.2, rfl, HO.out.1, HO.out.2⟩

set_option maxHeartbeats 1000000 in
theorem DrawCompleteLine_any (v : Value) (n : Nat) (w : World) (hn : n ≤ maxLen) (h : BytesB w w.heap.size v n) :
    Calls Tryd.prog 21 #[v] w (DrewSz15 w) := by
  go_enter Tryd.func21, Tryd.ntmps21
  go_wp2_with fail
  refine (open_any v n _ hn h).mono ?_
  rintro e w1 ⟨r, hr, rfl, hR, hb⟩
  go_wp2_with fail
  refine (l20Search_any r 0 _ hR (by omega)).mono ?_
  rintro e w2 ⟨f, u, c, lo, hi, hf, hc, h1, h6, hlo, hhi, rfl, hO⟩
  have HO := hid (And.intro (SlAt.of_row hO.1.1) (hO.base.1.below hb hr))
  have HV := hid (And.intro hf (And.intro hc (And.intro h1 (And.intro h6 (And.intro hlo hhi)))))
  clear hR hb h hn hr hO hf hc h1 h6 hlo hhi
  go_wp2
  (try simp only [Exit.inBlock, Exit.then])
  refine bodyPost_ret (results4_15 rfl _ _ _) rfl ?_
  exact ⟨f, u, c, lo, hi, HV.out.1, HV.out.2.1, HV.out.2.2.1, HV.out.2.2.2.1, HV.out.2.2.2.2.1, HV.out.2.2.2.2.2, rfl, HO.out.1, HO.out.2⟩

end Go.Proofs.YtieoobanpllmgaaDoor
