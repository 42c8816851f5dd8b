/- l20Section: a section is drawn. -/
import Derived.Test.YtpfefbpmchigeaaDoorSecsOwn
import Derived.Test.YtpfefbpmchigeaaDoorOwnDraw
import Derived.Test.YtpfefbpmchigeaaDoorWalks7P
import Derived.Deep.CutRange
import Derived.Deep.DeepCutAuto
namespace Go.Proofs.YtpfefbpmchigeaaDoor
set_option linter.unusedSimpArgs false
set_option linter.unusedVariables false
open Go.RowKit

theorem slAt_of_blk {n : Nat} {B : World → Prop} {w : World} {L : List Item} {q k c : Nat} {vs : List Value} (h : Own n B w L) (hm : Item.blk q vs ∈ L) (hk : vs.length = k) (hc : k ≤ c) (hmax : c ≤ maxLen) : SlAt w (.slice (some ⟨q, 0, none⟩) k c) k 1 vs :=
  ⟨by omega, Or.inr ⟨q, 0, c, rfl, hc, hmax, (h.holds _ hm).2.2, fun j u hj => (h.cells hm).get hj⟩⟩

theorem Own.num_at {n : Nat} {B : World → Prop} {w : World} {b : Nat} {x lo hi : Int} {L : List Item} (us : List Int) (h : Own n B w L) (hm : Item.blk b (us.map (Value.int .i64)) ∈ L) (x0 : 0 ≤ x) (x1 : x < us.length) (hb : ∀ u ∈ us, lo ≤ u ∧ u ≤ hi) :
    ∃ u, (lo ≤ u ∧ u ≤ hi) ∧ w.cell? ⟨b, x.toNat, none⟩ = some (.int .i64 u) := by
  obtain ⟨u, hu, hc⟩ := h.int_some us hm x0 x1
  exact ⟨u, hb u hu, hc⟩
theorem two_cells {x y : Int} : ∀ u ∈ [Value.int .i64 x, .int .i64 y], u.oneCell' = true := by
  intro u hu
  simp at hu
  rcases hu with rfl | rfl <;> rfl
/-- so many zeros, the first one 13. -/
def lastE (n : Nat) : List Int := (List.replicate n 0).set 0 13
theorem lastE_len (n : Nat) : (lastE n).length = n := by simp [lastE]
theorem lastE_in (n : Nat) : ∀ x ∈ lastE n, 0 ≤ x ∧ x ≤ 13 := fun x hx => by
  rcases List.mem_or_eq_of_mem_set hx with h | h
  · have := (List.mem_replicate.1 h).2; omega
  · omega
theorem lastE_set (n : Nat) : (inC (List.replicate n 0)).set 0 (.int .i64 13) = inC (lastE n) := by unfold lastE inC; rw [← List.map_set]

/-- What is known of a section that is drawn. -/
def seOk (s : Sec) : Prop := (-1 ≤ s.b ∧ s.b ≤ 13) ∧ (0 ≤ s.t ∧ s.t ≤ 5) ∧ s.e.length ≤ 5 ∧ ∀ x ∈ s.e, 0 ≤ x ∧ x ≤ 13
/-- What drawing a section leaves. -/
def DrewSe (r : Nat) (P : Int) (w : World) (e : Ending) (w' : World) : Prop :=
  ∃ (s : Sec) (A : Option Addr) (c : Nat), seOk s ∧ e = .returned (.agg #[.int .i64 s.b, .int .i64 s.t, .slice A s.e.length c]) ∧ w'.ownsRow w.heap.size 3 1 (.slice A s.e.length c) s.e.length (inC s.e) ∧ Rd w' r (P + 14) ∧ ButR r w w'

/-- The reader, up to the one pick of a drawn region. -/
def XR (r : Nat) (P : Int) : Nat → World → Prop
  | 0 => fun w => Rd w r P
  | _ + 1 => fun _ => True
theorem DrewSe.mk {r : Nat} {P Q : Int} {w w' : World} {s : Sec} {A : Option Addr} {c m : Nat} {L : List Item} (hO : Own w.heap.size (Bd r w Q) w' (.row 3 1 (.slice A m c) m (inC s.e) :: L)) (hm : s.e.length = m) (hQ : Q ≤ P + 14) (hs : seOk s) : DrewSe r P w (.returned (.agg #[.int .i64 s.b, .int .i64 s.t, .slice A m c])) w' := by
  subst hm
  exact ⟨s, A, c, hs, rfl, hO.1.1, hO.base.2.mono hQ, hO.base.1⟩
theorem all_two {us : List Int} (h : ∀ x ∈ us, 0 ≤ x ∧ x ≤ 2) (x : Int) (hx : 0 ≤ x ∧ x ≤ 2) : ∀ z ∈ us ++ [x], 0 ≤ z ∧ z ≤ 2 := fun z hz => by
  rcases List.mem_append.1 hz with h1 | h1
  · exact h z h1
  · simp at h1; subst h1; exact hx

set_option maxRecDepth 20000 in
set_option maxHeartbeats 1000000 in
theorem l20Section_any (r : Nat) (P n : Int) (w : World) (h : Rd w r P) (hP : P ≤ 800000) (n0 : 0 ≤ n) (n1 : n ≤ 1000000) :
    Calls Tryd.prog 26 #[.pointer (some ⟨r, 0, none⟩), .int .i64 n] w (DrewSe r P w) := by
  have hr0 := h.lt
  have hO := Own.startD h
  have hF := True.intro
  obtain ⟨i0, hi, hz0, hz1, hz2⟩ := info_parts infoI7
  clear h
  go_enter Tryd.func26, Tryd.ntmps26
  go_wp2_with fail
  (go_at_call 35; apply own_at hO; (repeat (first | (with_reducible exact hO) | (with_reducible apply Own.alloc) | (with_reducible apply Own.drew) | ((with_reducible apply Own.set_at); (focus (show _ ≤ _; omega))))); have hG := hF; clear hF; clear hO; intro hO; refine own_pick (k := 5) hO hr0 (by omega) (by omega) (by omega) ?_; clear hO; intro x w1 x0 x1 hO; (try simp only [World.size_alloc1, World.size_drew, Nat.reduceAdd] at hO); (try simp only [upd, updI, List.map_cons, List.map_nil, eq_self, if_true, if_false, reduceIte, Nat.add_eq_left, Nat.left_eq_add, Nat.reduceEqDiff, List.set_cons_zero, List.set_cons_succ, hG] at hO); clear hG; have hF := hO; (try simp only [Own, Item.Holds, apartI, CellsAt, Nat.reduceAdd, Nat.zero_add, List.mem_cons, List.not_mem_nil, or_false, forall_eq_or_imp, forall_eq, ne_eq, false_imp_iff, implies_true, and_true] at hF))
  obtain ⟨b, hb⟩ : ∃ b, x = b := ⟨_, rfl⟩
  have bb : 0 ≤ b ∧ b ≤ 4 := by omega
  rw [hb]
  clear hb x0 x1 x
  go_wp2_with fail
  (go_at_call 35; apply own_at hO; (repeat (first | (with_reducible exact hO) | (with_reducible apply Own.alloc) | (with_reducible apply Own.drew) | ((with_reducible apply Own.set_at); (focus (show _ ≤ _; omega))))); have hG := hF; clear hF; clear hO; intro hO; refine own_pick (k := 3) hO hr0 (by omega) (by omega) (by omega) ?_; clear hO; intro x w1 x0 x1 hO; (try simp only [World.size_alloc1, World.size_drew, Nat.reduceAdd] at hO); (try simp only [upd, updI, List.map_cons, List.map_nil, eq_self, if_true, if_false, reduceIte, Nat.add_eq_left, Nat.left_eq_add, Nat.reduceEqDiff, List.set_cons_zero, List.set_cons_succ, hG] at hO); clear hG; have hF := hO; (try simp only [Own, Item.Holds, apartI, CellsAt, Nat.reduceAdd, Nat.zero_add, List.mem_cons, List.not_mem_nil, or_false, forall_eq_or_imp, forall_eq, ne_eq, false_imp_iff, implies_true, and_true] at hF))
  obtain ⟨t, ht⟩ : ∃ t, 1 + x = t := ⟨_, rfl⟩
  have wt : IntKind.i64.wrap (1 + x) = t := by rw [ht]; exact IntWalk.i64_in _ (by omega)
  have tb : 1 ≤ t ∧ t ≤ 3 := by omega
  clear ht x0 x1
  go_wp2_with fail
  (apply own_code hO; (repeat (first | (with_reducible exact hO) | (with_reducible apply Own.alloc) | (with_reducible apply Own.drew) | ((with_reducible apply Own.set_at); (focus (show _ ≤ _; omega))))); have hG := hF; clear hF; clear hO; intro hO; (try simp only [World.size_alloc1, World.size_drew, Nat.reduceAdd] at hO); (try simp only [upd, updI, List.map_cons, List.map_nil, eq_self, if_true, if_false, reduceIte, Nat.add_eq_left, Nat.left_eq_add, Nat.reduceEqDiff, List.set_cons_zero, List.set_cons_succ, hG] at hO); clear hG; have hF := hO; (try simp only [Own, Item.Holds, apartI, CellsAt, Nat.reduceAdd, Nat.zero_add, List.mem_cons, List.not_mem_nil, or_false, forall_eq_or_imp, forall_eq, ne_eq, false_imp_iff, implies_true, and_true] at hF))
  clear hF wt
  obtain ⟨q5, hq5⟩ : ∃ q, w1.heap.size = q := ⟨_, rfl⟩
  replace hO := (hO.mono (Q := P + 2 + 2 * ((0 : Nat) : Int)) hr0 (by omega)).nilRow 3 1
  rw [hq5] at hO ⊢
  have hq5l : w.heap.size ≤ q5 := hO.2.1.1.2.1
  clear hq5
  go_loopw [6] (fun s wr => ∃ (us : List Int) (A : Option Addr) (c : Nat), s = .int .i64 (us.length : Int) ∧ ((us.length : Int) ≤ t) ∧ Hid (∀ x ∈ us, 0 ≤ x ∧ x ≤ 2) ∧ Own w.heap.size (Bd r w (P + 2 + 2 * (us.length : Int))) wr [.row 3 1 (.slice A us.length c) us.length (inC us), .blk q5 [.int .i64 b, .int .i64 t, .slice A us.length c], .blk w.heap.size [.int .i64 0, .int .i64 0, .slice none 0 0]]) (fun s _ => (t - intOf s).toNat)
  case atStart => exact ⟨[], none, 0, rfl, by simp; omega, (fun x hx => by cases hx), hO⟩
  case round =>
    clear hO
    obtain ⟨us, A, c, rfl, hul, hus, hO⟩ := hrel
    have hF := hO; (try simp only [Own, Item.Holds, apartI, CellsAt, Nat.reduceAdd, Nat.zero_add, List.mem_cons, List.not_mem_nil, or_false, forall_eq_or_imp, forall_eq, ne_eq, false_imp_iff, implies_true, and_true] at hF)
    obtain ⟨m, hm⟩ : ∃ m, us.length = m := ⟨_, rfl⟩
    have HM := hid hm
    rw [hm] at hO hul hF
    rw [hm]
    clear hm
    by_cases hmt : (m : Int) = t
    · have HW := hid (fun x hx => hus.out x hx)
      have HL := HM
      replace hO := hO.mono (Q := P + 8) hr0 (by omega)
      have h1 : ¬ ((m : Int) < t) := by omega
      have m0 : m ≤ 3 := by omega
      clear hmt hul hus hF
      have hF := hO; (try simp only [Own, Item.Holds, apartI, CellsAt, Nat.reduceAdd, Nat.zero_add, List.mem_cons, List.not_mem_nil, or_false, forall_eq_or_imp, forall_eq, ne_eq, false_imp_iff, implies_true, and_true] at hF)
      clear hF
      have hF := hO; (try simp only [Own, Item.Holds, apartI, CellsAt, Nat.reduceAdd, Nat.zero_add, List.mem_cons, List.not_mem_nil, or_false, forall_eq_or_imp, forall_eq, ne_eq, false_imp_iff, implies_true, and_true] at hF)
      go_wp2_with fail
      (go_at_call 36; apply own_at hO; (repeat (first | (with_reducible exact hO) | (with_reducible apply Own.alloc) | (with_reducible apply Own.drew) | ((with_reducible apply Own.set_at); (focus (show _ ≤ _; omega))))); have hG := hF; clear hF; clear hO; intro hO; refine own_odd hO hr0 (by omega) (by omega) (by omega) ?_; clear hO; intro x w1 hO; (try simp only [World.size_alloc1, World.size_drew, Nat.reduceAdd] at hO); (try simp only [upd, updI, List.map_cons, List.map_nil, eq_self, if_true, if_false, reduceIte, Nat.add_eq_left, Nat.left_eq_add, Nat.reduceEqDiff, List.set_cons_zero, List.set_cons_succ, hG] at hO); clear hG; have hF := hO; (try simp only [Own, Item.Holds, apartI, CellsAt, Nat.reduceAdd, Nat.zero_add, List.mem_cons, List.not_mem_nil, or_false, forall_eq_or_imp, forall_eq, ne_eq, false_imp_iff, implies_true, and_true] at hF))
      have HV := hid (show seOk ⟨b, t, us⟩ from ⟨by simp only; omega, by simp only; omega, by have := HL.out; simp only; omega, fun x hx => by have := HW.out x hx; omega⟩)
      cases x
      · go_wp2_with fail
        apply own_end hO
        (repeat (first | (with_reducible exact hO) | (with_reducible apply Own.alloc) | (with_reducible apply Own.drew) | ((with_reducible apply Own.set_at); (focus (show _ ≤ _; omega)))))
        have hG := hF; clear hF; clear hO; intro hO
        refine own_ret (v := .agg #[.int .i64 b, .int .i64 t, .slice A m c]) hO ?_ rfl (fun hO => by (try simp only [World.size_alloc1, World.size_drew, Nat.reduceAdd] at hO); (try simp only [upd, updI, List.map_cons, List.map_nil, eq_self, if_true, if_false, reduceIte, Nat.add_eq_left, Nat.left_eq_add, Nat.reduceEqDiff, List.set_cons_zero, List.set_cons_succ, hG] at hO); clear hG; exact DrewSe.mk (s := ⟨b, t, us⟩) hO HL.out (by omega) HV.out)
        clear hO; intro w1 hO
        (try simp only [World.size_alloc1, World.size_drew, Nat.reduceAdd] at hO); (try simp only [upd, updI, List.map_cons, List.map_nil, eq_self, if_true, if_false, reduceIte, Nat.add_eq_left, Nat.left_eq_add, Nat.reduceEqDiff, List.set_cons_zero, List.set_cons_succ, hG] at hO); clear hG
        have hF := hO; (try simp only [Own, Item.Holds, apartI, CellsAt, Nat.reduceAdd, Nat.zero_add, List.mem_cons, List.not_mem_nil, or_false, forall_eq_or_imp, forall_eq, ne_eq, false_imp_iff, implies_true, and_true] at hF)
        simp [results, Tryd.results26, go_sem, hF]
      · go_wp2_with fail
        (go_at_call 35; apply own_at hO; (repeat (first | (with_reducible exact hO) | (with_reducible apply Own.alloc) | (with_reducible apply Own.drew) | ((with_reducible apply Own.set_at); (focus (show _ ≤ _; omega))))); have hG := hF; clear hF; clear hO; intro hO; refine own_pick (k := 4) hO hr0 (by omega) (by omega) (by omega) ?_; clear hO; intro x w1 x0 x1 hO; (try simp only [World.size_alloc1, World.size_drew, Nat.reduceAdd] at hO); (try simp only [upd, updI, List.map_cons, List.map_nil, eq_self, if_true, if_false, reduceIte, Nat.add_eq_left, Nat.left_eq_add, Nat.reduceEqDiff, List.set_cons_zero, List.set_cons_succ, hG] at hO); clear hG; have hF := hO; (try simp only [Own, Item.Holds, apartI, CellsAt, Nat.reduceAdd, Nat.zero_add, List.mem_cons, List.not_mem_nil, or_false, forall_eq_or_imp, forall_eq, ne_eq, false_imp_iff, implies_true, and_true] at hF))
        rcases (show x = 0 ∨ x = 1 ∨ x = 2 ∨ x = 3 by omega) with rfl | rfl | rfl | rfl
        · clear x0 x1
          go_wp2_with fail
          (go_at_call 35; apply own_at hO; (repeat (first | (with_reducible exact hO) | (with_reducible apply Own.alloc) | (with_reducible apply Own.drew) | ((with_reducible apply Own.set_at); (focus (show _ ≤ _; omega))))); have hG := hF; clear hF; clear hO; intro hO; refine own_pick (k := 2) hO hr0 (by omega) (by omega) (by omega) ?_; clear hO; intro x w1 x0 x1 hO; (try simp only [World.size_alloc1, World.size_drew, Nat.reduceAdd] at hO); (try simp only [upd, updI, List.map_cons, List.map_nil, eq_self, if_true, if_false, reduceIte, Nat.add_eq_left, Nat.left_eq_add, Nat.reduceEqDiff, List.set_cons_zero, List.set_cons_succ, hG] at hO); clear hG; have hF := hO; (try simp only [Own, Item.Holds, apartI, CellsAt, Nat.reduceAdd, Nat.zero_add, List.mem_cons, List.not_mem_nil, or_false, forall_eq_or_imp, forall_eq, ne_eq, false_imp_iff, implies_true, and_true] at hF); obtain ⟨z, hz, hc⟩ := hO.num_at (lo := -1) (hi := 13) (x := x) [-1, 13] List.mem_cons_self x0 (by simpa using x1) (by decide))
          go_wp2_with fail
          apply own_end hO
          (repeat (first | (with_reducible exact hO) | (with_reducible apply Own.alloc) | (with_reducible apply Own.drew) | ((with_reducible apply Own.set_at); (focus (show _ ≤ _; omega)))))
          have hG := hF; clear hF; clear hO; intro hO
          refine own_ret (v := .agg #[.int .i64 z, .int .i64 t, .slice A m c]) hO ?_ rfl (fun hO => by (try simp only [World.size_alloc1, World.size_drew, Nat.reduceAdd] at hO); (try simp only [upd, updI, List.map_cons, List.map_nil, eq_self, if_true, if_false, reduceIte, Nat.add_eq_left, Nat.left_eq_add, Nat.reduceEqDiff, List.set_cons_zero, List.set_cons_succ, hG] at hO); clear hG; exact DrewSe.mk (s := ⟨z, t, us⟩) hO.2 HL.out (by omega) ⟨hz, HV.out.2⟩)
          clear hO; intro w1 hO
          (try simp only [World.size_alloc1, World.size_drew, Nat.reduceAdd] at hO); (try simp only [upd, updI, List.map_cons, List.map_nil, eq_self, if_true, if_false, reduceIte, Nat.add_eq_left, Nat.left_eq_add, Nat.reduceEqDiff, List.set_cons_zero, List.set_cons_succ, hG] at hO); clear hG
          have hF := hO; (try simp only [Own, Item.Holds, apartI, CellsAt, Nat.reduceAdd, Nat.zero_add, List.mem_cons, List.not_mem_nil, or_false, forall_eq_or_imp, forall_eq, ne_eq, false_imp_iff, implies_true, and_true] at hF)
          simp [results, Tryd.results26, go_sem, hF]
        · clear x0 x1
          go_wp2_with fail
          (go_at_call 35; apply own_at hO; (repeat (first | (with_reducible exact hO) | (with_reducible apply Own.alloc) | (with_reducible apply Own.drew) | ((with_reducible apply Own.set_at); (focus (show _ ≤ _; omega))))); have hG := hF; clear hF; clear hO; intro hO; refine own_pick (k := 2) hO hr0 (by omega) (by omega) (by omega) ?_; clear hO; intro x w1 x0 x1 hO; (try simp only [World.size_alloc1, World.size_drew, Nat.reduceAdd] at hO); (try simp only [upd, updI, List.map_cons, List.map_nil, eq_self, if_true, if_false, reduceIte, Nat.add_eq_left, Nat.left_eq_add, Nat.reduceEqDiff, List.set_cons_zero, List.set_cons_succ, hG] at hO); clear hG; have hF := hO; (try simp only [Own, Item.Holds, apartI, CellsAt, Nat.reduceAdd, Nat.zero_add, List.mem_cons, List.not_mem_nil, or_false, forall_eq_or_imp, forall_eq, ne_eq, false_imp_iff, implies_true, and_true] at hF); obtain ⟨z, hz, hc⟩ := hO.num_at (lo := 0) (hi := 5) (x := x) [0, 5] List.mem_cons_self x0 (by simpa using x1) (by decide))
          go_wp2_with fail
          apply own_end hO
          (repeat (first | (with_reducible exact hO) | (with_reducible apply Own.alloc) | (with_reducible apply Own.drew) | ((with_reducible apply Own.set_at); (focus (show _ ≤ _; omega)))))
          have hG := hF; clear hF; clear hO; intro hO
          refine own_ret (v := .agg #[.int .i64 b, .int .i64 z, .slice A m c]) hO ?_ rfl (fun hO => by (try simp only [World.size_alloc1, World.size_drew, Nat.reduceAdd] at hO); (try simp only [upd, updI, List.map_cons, List.map_nil, eq_self, if_true, if_false, reduceIte, Nat.add_eq_left, Nat.left_eq_add, Nat.reduceEqDiff, List.set_cons_zero, List.set_cons_succ, hG] at hO); clear hG; exact DrewSe.mk (s := ⟨b, z, us⟩) hO.2 HL.out (by omega) ⟨HV.out.1, hz, HV.out.2.2⟩)
          clear hO; intro w1 hO
          (try simp only [World.size_alloc1, World.size_drew, Nat.reduceAdd] at hO); (try simp only [upd, updI, List.map_cons, List.map_nil, eq_self, if_true, if_false, reduceIte, Nat.add_eq_left, Nat.left_eq_add, Nat.reduceEqDiff, List.set_cons_zero, List.set_cons_succ, hG] at hO); clear hG
          have hF := hO; (try simp only [Own, Item.Holds, apartI, CellsAt, Nat.reduceAdd, Nat.zero_add, List.mem_cons, List.not_mem_nil, or_false, forall_eq_or_imp, forall_eq, ne_eq, false_imp_iff, implies_true, and_true] at hF)
          simp [results, Tryd.results26, go_sem, hF]
        · clear x0 x1
          go_wp2_with (at_builtin; apply own_list hO; (repeat (first | (with_reducible exact hO) | (with_reducible apply Own.alloc) | (with_reducible apply Own.drew) | ((with_reducible apply Own.set_at); (focus (show _ ≤ _; omega))))); have hG := hF; clear hF; clear hO; intro hO; (try simp only [World.size_alloc1, World.size_drew, Nat.reduceAdd] at hO); (try simp only [upd, updI, List.map_cons, List.map_nil, eq_self, if_true, if_false, reduceIte, Nat.add_eq_left, Nat.left_eq_add, Nat.reduceEqDiff, List.set_cons_zero, List.set_cons_succ, hG] at hO); clear hG; have hs2 := slAt_of_blk (k := 2) (c := 2) hO List.mem_cons_self rfl (by omega) (by unfold maxLen; omega); replace hO := hO.2; refine wpList_append_slice rfl _ _ 23 rfl 3 i0 (.int .i64 0) 1 8 Tryd.underlying23 hi hz0 hz1 hz2 rfl (by decide) rfl rfl hO hs2 two_cells (by unfold maxLen; omega) (by omega) ?_; clear hO hs2; intro v' w3 hO; rw [← (show inC (us ++ [1, 1]) = inC us ++ [Value.int .i64 1, .int .i64 1] from List.map_append)] at hO; obtain ⟨A3, c3, hv3⟩ := (SlAt.of_row hO.1.1).form; subst hv3; have hF := hO; (try simp only [Own, Item.Holds, apartI, CellsAt, Nat.reduceAdd, Nat.zero_add, List.mem_cons, List.not_mem_nil, or_false, forall_eq_or_imp, forall_eq, ne_eq, false_imp_iff, implies_true, and_true] at hF))
          apply own_end hO
          (repeat (first | (with_reducible exact hO) | (with_reducible apply Own.alloc) | (with_reducible apply Own.drew) | ((with_reducible apply Own.set_at); (focus (show _ ≤ _; omega)))))
          have hG := hF; clear hF; clear hO; intro hO
          refine own_ret (v := .agg #[.int .i64 b, .int .i64 t, .slice A3 (m + 2) c3]) hO ?_ rfl (fun hO => by (try simp only [World.size_alloc1, World.size_drew, Nat.reduceAdd] at hO); (try simp only [upd, updI, List.map_cons, List.map_nil, eq_self, if_true, if_false, reduceIte, Nat.add_eq_left, Nat.left_eq_add, Nat.reduceEqDiff, List.set_cons_zero, List.set_cons_succ, hG] at hO); clear hG; exact DrewSe.mk (s := ⟨b, t, us ++ [1, 1]⟩) (m := m + 2) hO (by rw [List.length_append, HL.out]; rfl) (by omega) ⟨HV.out.1, HV.out.2.1, by rw [List.length_append, HL.out]; simp; omega, fun z hz => by
                      rcases List.mem_append.1 hz with h | h
                      · exact HV.out.2.2.2 z h
                      · simp at h; omega⟩)
          clear hO; intro w1 hO
          (try simp only [World.size_alloc1, World.size_drew, Nat.reduceAdd] at hO); (try simp only [upd, updI, List.map_cons, List.map_nil, eq_self, if_true, if_false, reduceIte, Nat.add_eq_left, Nat.left_eq_add, Nat.reduceEqDiff, List.set_cons_zero, List.set_cons_succ, hG] at hO); clear hG
          have hF := hO; (try simp only [Own, Item.Holds, apartI, CellsAt, Nat.reduceAdd, Nat.zero_add, List.mem_cons, List.not_mem_nil, or_false, forall_eq_or_imp, forall_eq, ne_eq, false_imp_iff, implies_true, and_true] at hF)
          simp [results, Tryd.results26, go_sem, hF]
        · clear x0 x1
          obtain ⟨tn, rfl⟩ : ∃ tn : Nat, t = tn := ⟨t.toNat, by omega⟩
          have tn0 : 0 < tn := by omega
          have HE := hid (show (inC (List.replicate tn 0))[0]? = some (.int .i64 0) by rw [List.getElem?_map, List.getElem?_replicate, if_pos tn0]; rfl)
          go_wp2_with (at_make; go_loud (refine wpList_make_item rfl _ _ 23 rfl 3 i0 (.int .i64 0) 1 8 Tryd.underlying23 hi hz0 hz1 hz2 _ _ _ _ tn rfl rfl rfl rfl (by omega) (by unfold maxLen; omega) (by (repeat (first | (with_reducible exact hO) | (with_reducible apply Own.alloc) | (with_reducible apply Own.drew) | ((with_reducible apply Own.set_at); (focus (show _ ≤ _; omega)))))) ?_); clear hO hF; intro q w2 hO; rw [madeI tn] at hO; have e0 := hO.row_cell HE.out; have f0 := hO.row_free 0; have hql := (Item.Holds.lt (x := .row _ _ _ _ _) hO.1.1 q rfl).2; have hF := hO; (try simp only [Own, Item.Holds, apartI, CellsAt, Nat.reduceAdd, Nat.zero_add, List.mem_cons, List.not_mem_nil, or_false, forall_eq_or_imp, forall_eq, ne_eq, false_imp_iff, implies_true, and_true] at hF); have hO2 := Own.set_at (b := q5) (i := 2) (u := .slice (some ⟨q, 0, none⟩) tn tn) hq5l hO; have hG := hF; (try simp only [World.size_alloc1, World.size_drew, Nat.reduceAdd] at hO2); (try simp only [upd, updI, List.map_cons, List.map_nil, eq_self, if_true, if_false, reduceIte, Nat.add_eq_left, Nat.left_eq_add, Nat.reduceEqDiff, List.set_cons_zero, List.set_cons_succ, hG] at hO2); clear hG; replace hO2 := hO2.row_set 0 (.int .i64 13); rw [lastE_set] at hO2; have hne := hO.1.2 _ (List.mem_cons_of_mem _ List.mem_cons_self); have hne3 := hO.1.2 _ (List.mem_cons_of_mem _ (List.mem_cons_of_mem _ List.mem_cons_self)); clear hO; simp only [apartI, Value.ownBlock, ne_eq, Option.some.injEq] at hne hne3; have hne2 := fun e => hne (Eq.symm e); have hne4 := fun e => hne3 (Eq.symm e); have hO := hO2; clear hO2)
          apply own_end hO
          (repeat (first | (with_reducible exact hO) | (with_reducible apply Own.alloc) | (with_reducible apply Own.drew) | ((with_reducible apply Own.set_at); (focus (show _ ≤ _; omega)))))
          have hG := hF; clear hF; clear hO; intro hO
          refine own_ret (v := .agg #[.int .i64 b, .int .i64 (tn : Int), .slice (some ⟨q, 0, none⟩) tn tn]) hO ?_ rfl (fun hO => by (try simp only [World.size_alloc1, World.size_drew, Nat.reduceAdd] at hO); (try simp only [upd, updI, List.map_cons, List.map_nil, eq_self, if_true, if_false, reduceIte, Nat.add_eq_left, Nat.left_eq_add, Nat.reduceEqDiff, List.set_cons_zero, List.set_cons_succ, hG] at hO); clear hG; exact DrewSe.mk (s := ⟨b, tn, lastE tn⟩) hO (lastE_len tn) (by omega) ⟨HV.out.1, HV.out.2.1, by rw [lastE_len]; omega, lastE_in tn⟩)
          clear hO; intro w1 hO
          (try simp only [World.size_alloc1, World.size_drew, Nat.reduceAdd] at hO); (try simp only [upd, updI, List.map_cons, List.map_nil, eq_self, if_true, if_false, reduceIte, Nat.add_eq_left, Nat.left_eq_add, Nat.reduceEqDiff, List.set_cons_zero, List.set_cons_succ, hG] at hO); clear hG
          have hF := hO; (try simp only [Own, Item.Holds, apartI, CellsAt, Nat.reduceAdd, Nat.zero_add, List.mem_cons, List.not_mem_nil, or_false, forall_eq_or_imp, forall_eq, ne_eq, false_imp_iff, implies_true, and_true] at hF)
          simp [results, Tryd.results26, go_sem, hF]
    · have hlt : (m : Int) < t := by omega
      clear hmt
      go_wp2_with fail
      (go_at_call 35; apply own_at hO; (repeat (first | (with_reducible exact hO) | (with_reducible apply Own.alloc) | (with_reducible apply Own.drew) | ((with_reducible apply Own.set_at); (focus (show _ ≤ _; omega))))); have hG := hF; clear hF; clear hO; intro hO; refine own_pick (k := 3) hO hr0 (by omega) (by omega) (by omega) ?_; clear hO; intro x w1 x0 x1 hO; (try simp only [World.size_alloc1, World.size_drew, Nat.reduceAdd] at hO); (try simp only [upd, updI, List.map_cons, List.map_nil, eq_self, if_true, if_false, reduceIte, Nat.add_eq_left, Nat.left_eq_add, Nat.reduceEqDiff, List.set_cons_zero, List.set_cons_succ, hG] at hO); clear hG; have hF := hO; (try simp only [Own, Item.Holds, apartI, CellsAt, Nat.reduceAdd, Nat.zero_add, List.mem_cons, List.not_mem_nil, or_false, forall_eq_or_imp, forall_eq, ne_eq, false_imp_iff, implies_true, and_true] at hF))
      by_cases hx0 : x = 0
      · subst hx0
        have h1 : (m : Int) < t := hlt
        clear x0 x1 hlt hul
        go_wp2_with fail
        replace hO := Own.set_at (b := q5) (i := 2) (u := .slice none 0 0) hq5l hO
        have hG := hF
        (try simp only [World.size_alloc1, World.size_drew, Nat.reduceAdd] at hO); (try simp only [upd, updI, List.map_cons, List.map_nil, eq_self, if_true, if_false, reduceIte, Nat.add_eq_left, Nat.left_eq_add, Nat.reduceEqDiff, List.set_cons_zero, List.set_cons_succ, hG] at hO); clear hG
        replace hO := ((hO.drop).mono (Q := P + 8) hr0 (by omega)).nilRow 3 1
        obtain ⟨vs, A', c', m', HL, HW, m0, hO⟩ : ∃ (vs : List Int) (A' : Option Addr) (c' m' : Nat), Hid (vs.length = m') ∧ Hid (∀ x ∈ vs, 0 ≤ x ∧ x ≤ 2) ∧ m' ≤ 3 ∧ Own w.heap.size (Bd r w (P + 8)) (w1.setCell ⟨q5, 2, none⟩ (.slice none 0 0)) [.row 3 1 (.slice A' m' c') m' (inC vs), .blk q5 [.int .i64 b, .int .i64 t, .slice A' m' c'], .blk w.heap.size [.int .i64 0, .int .i64 0, .slice none 0 0]] := ⟨[], none, 0, 0, rfl, (fun x hx => by cases hx), by omega, hO⟩
        have hF := True.intro
        clear hF
        have hF := hO; (try simp only [Own, Item.Holds, apartI, CellsAt, Nat.reduceAdd, Nat.zero_add, List.mem_cons, List.not_mem_nil, or_false, forall_eq_or_imp, forall_eq, ne_eq, false_imp_iff, implies_true, and_true] at hF)
        go_wp2_with fail
        (go_at_call 36; apply own_at hO; (repeat (first | (with_reducible exact hO) | (with_reducible apply Own.alloc) | (with_reducible apply Own.drew) | ((with_reducible apply Own.set_at); (focus (show _ ≤ _; omega))))); have hG := hF; clear hF; clear hO; intro hO; refine own_odd hO hr0 (by omega) (by omega) (by omega) ?_; clear hO; intro x w1 hO; (try simp only [World.size_alloc1, World.size_drew, Nat.reduceAdd] at hO); (try simp only [upd, updI, List.map_cons, List.map_nil, eq_self, if_true, if_false, reduceIte, Nat.add_eq_left, Nat.left_eq_add, Nat.reduceEqDiff, List.set_cons_zero, List.set_cons_succ, hG] at hO); clear hG; have hF := hO; (try simp only [Own, Item.Holds, apartI, CellsAt, Nat.reduceAdd, Nat.zero_add, List.mem_cons, List.not_mem_nil, or_false, forall_eq_or_imp, forall_eq, ne_eq, false_imp_iff, implies_true, and_true] at hF))
        have HV := hid (show seOk ⟨b, t, vs⟩ from ⟨by simp only; omega, by simp only; omega, by have := HL.out; simp only; omega, fun x hx => by have := HW.out x hx; omega⟩)
        cases x
        · go_wp2_with fail
          apply own_end hO
          (repeat (first | (with_reducible exact hO) | (with_reducible apply Own.alloc) | (with_reducible apply Own.drew) | ((with_reducible apply Own.set_at); (focus (show _ ≤ _; omega)))))
          have hG := hF; clear hF; clear hO; intro hO
          refine own_ret (v := .agg #[.int .i64 b, .int .i64 t, .slice A' m' c']) hO ?_ rfl (fun hO => by (try simp only [World.size_alloc1, World.size_drew, Nat.reduceAdd] at hO); (try simp only [upd, updI, List.map_cons, List.map_nil, eq_self, if_true, if_false, reduceIte, Nat.add_eq_left, Nat.left_eq_add, Nat.reduceEqDiff, List.set_cons_zero, List.set_cons_succ, hG] at hO); clear hG; exact DrewSe.mk (s := ⟨b, t, vs⟩) hO HL.out (by omega) HV.out)
          clear hO; intro w1 hO
          (try simp only [World.size_alloc1, World.size_drew, Nat.reduceAdd] at hO); (try simp only [upd, updI, List.map_cons, List.map_nil, eq_self, if_true, if_false, reduceIte, Nat.add_eq_left, Nat.left_eq_add, Nat.reduceEqDiff, List.set_cons_zero, List.set_cons_succ, hG] at hO); clear hG
          have hF := hO; (try simp only [Own, Item.Holds, apartI, CellsAt, Nat.reduceAdd, Nat.zero_add, List.mem_cons, List.not_mem_nil, or_false, forall_eq_or_imp, forall_eq, ne_eq, false_imp_iff, implies_true, and_true] at hF)
          simp [results, Tryd.results26, go_sem, hF]
        · go_wp2_with fail
          (go_at_call 35; apply own_at hO; (repeat (first | (with_reducible exact hO) | (with_reducible apply Own.alloc) | (with_reducible apply Own.drew) | ((with_reducible apply Own.set_at); (focus (show _ ≤ _; omega))))); have hG := hF; clear hF; clear hO; intro hO; refine own_pick (k := 4) hO hr0 (by omega) (by omega) (by omega) ?_; clear hO; intro x w1 x0 x1 hO; (try simp only [World.size_alloc1, World.size_drew, Nat.reduceAdd] at hO); (try simp only [upd, updI, List.map_cons, List.map_nil, eq_self, if_true, if_false, reduceIte, Nat.add_eq_left, Nat.left_eq_add, Nat.reduceEqDiff, List.set_cons_zero, List.set_cons_succ, hG] at hO); clear hG; have hF := hO; (try simp only [Own, Item.Holds, apartI, CellsAt, Nat.reduceAdd, Nat.zero_add, List.mem_cons, List.not_mem_nil, or_false, forall_eq_or_imp, forall_eq, ne_eq, false_imp_iff, implies_true, and_true] at hF))
          rcases (show x = 0 ∨ x = 1 ∨ x = 2 ∨ x = 3 by omega) with rfl | rfl | rfl | rfl
          · clear x0 x1
            go_wp2_with fail
            (go_at_call 35; apply own_at hO; (repeat (first | (with_reducible exact hO) | (with_reducible apply Own.alloc) | (with_reducible apply Own.drew) | ((with_reducible apply Own.set_at); (focus (show _ ≤ _; omega))))); have hG := hF; clear hF; clear hO; intro hO; refine own_pick (k := 2) hO hr0 (by omega) (by omega) (by omega) ?_; clear hO; intro x w1 x0 x1 hO; (try simp only [World.size_alloc1, World.size_drew, Nat.reduceAdd] at hO); (try simp only [upd, updI, List.map_cons, List.map_nil, eq_self, if_true, if_false, reduceIte, Nat.add_eq_left, Nat.left_eq_add, Nat.reduceEqDiff, List.set_cons_zero, List.set_cons_succ, hG] at hO); clear hG; have hF := hO; (try simp only [Own, Item.Holds, apartI, CellsAt, Nat.reduceAdd, Nat.zero_add, List.mem_cons, List.not_mem_nil, or_false, forall_eq_or_imp, forall_eq, ne_eq, false_imp_iff, implies_true, and_true] at hF); obtain ⟨z, hz, hc⟩ := hO.num_at (lo := -1) (hi := 13) (x := x) [-1, 13] List.mem_cons_self x0 (by simpa using x1) (by decide))
            go_wp2_with fail
            apply own_end hO
            (repeat (first | (with_reducible exact hO) | (with_reducible apply Own.alloc) | (with_reducible apply Own.drew) | ((with_reducible apply Own.set_at); (focus (show _ ≤ _; omega)))))
            have hG := hF; clear hF; clear hO; intro hO
            refine own_ret (v := .agg #[.int .i64 z, .int .i64 t, .slice A' m' c']) hO ?_ rfl (fun hO => by (try simp only [World.size_alloc1, World.size_drew, Nat.reduceAdd] at hO); (try simp only [upd, updI, List.map_cons, List.map_nil, eq_self, if_true, if_false, reduceIte, Nat.add_eq_left, Nat.left_eq_add, Nat.reduceEqDiff, List.set_cons_zero, List.set_cons_succ, hG] at hO); clear hG; exact DrewSe.mk (s := ⟨z, t, vs⟩) hO.2 HL.out (by omega) ⟨hz, HV.out.2⟩)
            clear hO; intro w1 hO
            (try simp only [World.size_alloc1, World.size_drew, Nat.reduceAdd] at hO); (try simp only [upd, updI, List.map_cons, List.map_nil, eq_self, if_true, if_false, reduceIte, Nat.add_eq_left, Nat.left_eq_add, Nat.reduceEqDiff, List.set_cons_zero, List.set_cons_succ, hG] at hO); clear hG
            have hF := hO; (try simp only [Own, Item.Holds, apartI, CellsAt, Nat.reduceAdd, Nat.zero_add, List.mem_cons, List.not_mem_nil, or_false, forall_eq_or_imp, forall_eq, ne_eq, false_imp_iff, implies_true, and_true] at hF)
            simp [results, Tryd.results26, go_sem, hF]
          · clear x0 x1
            go_wp2_with fail
            (go_at_call 35; apply own_at hO; (repeat (first | (with_reducible exact hO) | (with_reducible apply Own.alloc) | (with_reducible apply Own.drew) | ((with_reducible apply Own.set_at); (focus (show _ ≤ _; omega))))); have hG := hF; clear hF; clear hO; intro hO; refine own_pick (k := 2) hO hr0 (by omega) (by omega) (by omega) ?_; clear hO; intro x w1 x0 x1 hO; (try simp only [World.size_alloc1, World.size_drew, Nat.reduceAdd] at hO); (try simp only [upd, updI, List.map_cons, List.map_nil, eq_self, if_true, if_false, reduceIte, Nat.add_eq_left, Nat.left_eq_add, Nat.reduceEqDiff, List.set_cons_zero, List.set_cons_succ, hG] at hO); clear hG; have hF := hO; (try simp only [Own, Item.Holds, apartI, CellsAt, Nat.reduceAdd, Nat.zero_add, List.mem_cons, List.not_mem_nil, or_false, forall_eq_or_imp, forall_eq, ne_eq, false_imp_iff, implies_true, and_true] at hF); obtain ⟨z, hz, hc⟩ := hO.num_at (lo := 0) (hi := 5) (x := x) [0, 5] List.mem_cons_self x0 (by simpa using x1) (by decide))
            go_wp2_with fail
            apply own_end hO
            (repeat (first | (with_reducible exact hO) | (with_reducible apply Own.alloc) | (with_reducible apply Own.drew) | ((with_reducible apply Own.set_at); (focus (show _ ≤ _; omega)))))
            have hG := hF; clear hF; clear hO; intro hO
            refine own_ret (v := .agg #[.int .i64 b, .int .i64 z, .slice A' m' c']) hO ?_ rfl (fun hO => by (try simp only [World.size_alloc1, World.size_drew, Nat.reduceAdd] at hO); (try simp only [upd, updI, List.map_cons, List.map_nil, eq_self, if_true, if_false, reduceIte, Nat.add_eq_left, Nat.left_eq_add, Nat.reduceEqDiff, List.set_cons_zero, List.set_cons_succ, hG] at hO); clear hG; exact DrewSe.mk (s := ⟨b, z, vs⟩) hO.2 HL.out (by omega) ⟨HV.out.1, hz, HV.out.2.2⟩)
            clear hO; intro w1 hO
            (try simp only [World.size_alloc1, World.size_drew, Nat.reduceAdd] at hO); (try simp only [upd, updI, List.map_cons, List.map_nil, eq_self, if_true, if_false, reduceIte, Nat.add_eq_left, Nat.left_eq_add, Nat.reduceEqDiff, List.set_cons_zero, List.set_cons_succ, hG] at hO); clear hG
            have hF := hO; (try simp only [Own, Item.Holds, apartI, CellsAt, Nat.reduceAdd, Nat.zero_add, List.mem_cons, List.not_mem_nil, or_false, forall_eq_or_imp, forall_eq, ne_eq, false_imp_iff, implies_true, and_true] at hF)
            simp [results, Tryd.results26, go_sem, hF]
          · clear x0 x1
            go_wp2_with (at_builtin; apply own_list hO; (repeat (first | (with_reducible exact hO) | (with_reducible apply Own.alloc) | (with_reducible apply Own.drew) | ((with_reducible apply Own.set_at); (focus (show _ ≤ _; omega))))); have hG := hF; clear hF; clear hO; intro hO; (try simp only [World.size_alloc1, World.size_drew, Nat.reduceAdd] at hO); (try simp only [upd, updI, List.map_cons, List.map_nil, eq_self, if_true, if_false, reduceIte, Nat.add_eq_left, Nat.left_eq_add, Nat.reduceEqDiff, List.set_cons_zero, List.set_cons_succ, hG] at hO); clear hG; have hs2 := slAt_of_blk (k := 2) (c := 2) hO List.mem_cons_self rfl (by omega) (by unfold maxLen; omega); replace hO := hO.2; refine wpList_append_slice rfl _ _ 23 rfl 3 i0 (.int .i64 0) 1 8 Tryd.underlying23 hi hz0 hz1 hz2 rfl (by decide) rfl rfl hO hs2 two_cells (by unfold maxLen; omega) (by omega) ?_; clear hO hs2; intro v' w3 hO; rw [← (show inC (vs ++ [1, 1]) = inC vs ++ [Value.int .i64 1, .int .i64 1] from List.map_append)] at hO; obtain ⟨A3, c3, hv3⟩ := (SlAt.of_row hO.1.1).form; subst hv3; have hF := hO; (try simp only [Own, Item.Holds, apartI, CellsAt, Nat.reduceAdd, Nat.zero_add, List.mem_cons, List.not_mem_nil, or_false, forall_eq_or_imp, forall_eq, ne_eq, false_imp_iff, implies_true, and_true] at hF))
            apply own_end hO
            (repeat (first | (with_reducible exact hO) | (with_reducible apply Own.alloc) | (with_reducible apply Own.drew) | ((with_reducible apply Own.set_at); (focus (show _ ≤ _; omega)))))
            have hG := hF; clear hF; clear hO; intro hO
            refine own_ret (v := .agg #[.int .i64 b, .int .i64 t, .slice A3 (m' + 2) c3]) hO ?_ rfl (fun hO => by (try simp only [World.size_alloc1, World.size_drew, Nat.reduceAdd] at hO); (try simp only [upd, updI, List.map_cons, List.map_nil, eq_self, if_true, if_false, reduceIte, Nat.add_eq_left, Nat.left_eq_add, Nat.reduceEqDiff, List.set_cons_zero, List.set_cons_succ, hG] at hO); clear hG; exact DrewSe.mk (s := ⟨b, t, vs ++ [1, 1]⟩) (m := m' + 2) hO (by rw [List.length_append, HL.out]; rfl) (by omega) ⟨HV.out.1, HV.out.2.1, by rw [List.length_append, HL.out]; simp; omega, fun z hz => by
                          rcases List.mem_append.1 hz with h | h
                          · exact HV.out.2.2.2 z h
                          · simp at h; omega⟩)
            clear hO; intro w1 hO
            (try simp only [World.size_alloc1, World.size_drew, Nat.reduceAdd] at hO); (try simp only [upd, updI, List.map_cons, List.map_nil, eq_self, if_true, if_false, reduceIte, Nat.add_eq_left, Nat.left_eq_add, Nat.reduceEqDiff, List.set_cons_zero, List.set_cons_succ, hG] at hO); clear hG
            have hF := hO; (try simp only [Own, Item.Holds, apartI, CellsAt, Nat.reduceAdd, Nat.zero_add, List.mem_cons, List.not_mem_nil, or_false, forall_eq_or_imp, forall_eq, ne_eq, false_imp_iff, implies_true, and_true] at hF)
            simp [results, Tryd.results26, go_sem, hF]
          · clear x0 x1
            obtain ⟨tn, rfl⟩ : ∃ tn : Nat, t = tn := ⟨t.toNat, by omega⟩
            have tn0 : 0 < tn := by omega
            have HE := hid (show (inC (List.replicate tn 0))[0]? = some (.int .i64 0) by rw [List.getElem?_map, List.getElem?_replicate, if_pos tn0]; rfl)
            go_wp2_with (at_make; go_loud (refine wpList_make_item rfl _ _ 23 rfl 3 i0 (.int .i64 0) 1 8 Tryd.underlying23 hi hz0 hz1 hz2 _ _ _ _ tn rfl rfl rfl rfl (by omega) (by unfold maxLen; omega) (by (repeat (first | (with_reducible exact hO) | (with_reducible apply Own.alloc) | (with_reducible apply Own.drew) | ((with_reducible apply Own.set_at); (focus (show _ ≤ _; omega)))))) ?_); clear hO hF; intro q w2 hO; rw [madeI tn] at hO; have e0 := hO.row_cell HE.out; have f0 := hO.row_free 0; have hql := (Item.Holds.lt (x := .row _ _ _ _ _) hO.1.1 q rfl).2; have hF := hO; (try simp only [Own, Item.Holds, apartI, CellsAt, Nat.reduceAdd, Nat.zero_add, List.mem_cons, List.not_mem_nil, or_false, forall_eq_or_imp, forall_eq, ne_eq, false_imp_iff, implies_true, and_true] at hF); have hO2 := Own.set_at (b := q5) (i := 2) (u := .slice (some ⟨q, 0, none⟩) tn tn) hq5l hO; have hG := hF; (try simp only [World.size_alloc1, World.size_drew, Nat.reduceAdd] at hO2); (try simp only [upd, updI, List.map_cons, List.map_nil, eq_self, if_true, if_false, reduceIte, Nat.add_eq_left, Nat.left_eq_add, Nat.reduceEqDiff, List.set_cons_zero, List.set_cons_succ, hG] at hO2); clear hG; replace hO2 := hO2.row_set 0 (.int .i64 13); rw [lastE_set] at hO2; have hne := hO.1.2 _ (List.mem_cons_of_mem _ List.mem_cons_self); have hne3 := hO.1.2 _ (List.mem_cons_of_mem _ (List.mem_cons_of_mem _ List.mem_cons_self)); clear hO; simp only [apartI, Value.ownBlock, ne_eq, Option.some.injEq] at hne hne3; have hne2 := fun e => hne (Eq.symm e); have hne4 := fun e => hne3 (Eq.symm e); have hO := hO2; clear hO2)
            apply own_end hO
            (repeat (first | (with_reducible exact hO) | (with_reducible apply Own.alloc) | (with_reducible apply Own.drew) | ((with_reducible apply Own.set_at); (focus (show _ ≤ _; omega)))))
            have hG := hF; clear hF; clear hO; intro hO
            refine own_ret (v := .agg #[.int .i64 b, .int .i64 (tn : Int), .slice (some ⟨q, 0, none⟩) tn tn]) hO ?_ rfl (fun hO => by (try simp only [World.size_alloc1, World.size_drew, Nat.reduceAdd] at hO); (try simp only [upd, updI, List.map_cons, List.map_nil, eq_self, if_true, if_false, reduceIte, Nat.add_eq_left, Nat.left_eq_add, Nat.reduceEqDiff, List.set_cons_zero, List.set_cons_succ, hG] at hO); clear hG; exact DrewSe.mk (s := ⟨b, tn, lastE tn⟩) hO (lastE_len tn) (by omega) ⟨HV.out.1, HV.out.2.1, by rw [lastE_len]; omega, lastE_in tn⟩)
            clear hO; intro w1 hO
            (try simp only [World.size_alloc1, World.size_drew, Nat.reduceAdd] at hO); (try simp only [upd, updI, List.map_cons, List.map_nil, eq_self, if_true, if_false, reduceIte, Nat.add_eq_left, Nat.left_eq_add, Nat.reduceEqDiff, List.set_cons_zero, List.set_cons_succ, hG] at hO); clear hG
            have hF := hO; (try simp only [Own, Item.Holds, apartI, CellsAt, Nat.reduceAdd, Nat.zero_add, List.mem_cons, List.not_mem_nil, or_false, forall_eq_or_imp, forall_eq, ne_eq, false_imp_iff, implies_true, and_true] at hF)
            simp [results, Tryd.results26, go_sem, hF]
      · have hxp : 0 < x := by omega
        have HJ := hid (And.intro hlt (And.intro hul HM.out))
        clear hx0 hF
        have hF := hO; (try simp only [Own, Item.Holds, apartI, CellsAt, Nat.reduceAdd, Nat.zero_add, List.mem_cons, List.not_mem_nil, or_false, forall_eq_or_imp, forall_eq, ne_eq, false_imp_iff, implies_true, and_true] at hF)
        go_upto_region 5 with fail
        have hX : XR r (P + 2 + 2 * (m : Int) + 1) 0 w1 := hO.base.2
        replace hO := hO.mono (Q := P + 2 + 2 * ((m : Int) + 1)) hr0 (by omega)
        apply own_code hO
        (repeat (first | (with_reducible exact hO) | (with_reducible apply Own.alloc) | (with_reducible apply Own.drew) | ((with_reducible apply Own.set_at); (focus (show _ ≤ _; omega)))))
        have hG := hF; clear hF; clear hO; intro hO
        (try simp only [World.size_alloc1, World.size_drew, Nat.reduceAdd] at hO); (try simp only [upd, updI, List.map_cons, List.map_nil, eq_self, if_true, if_false, reduceIte, Nat.add_eq_left, Nat.left_eq_add, Nat.reduceEqDiff, List.set_cons_zero, List.set_cons_succ, hG] at hO); clear hG
        refine region_own (X := XR r (P + 2 + 2 * (m : Int) + 1) 0) [5, 7] (by kernel_rfl) (hO) (hX) (by first | exact XStab.true | exact XStab.rd | exact XStab.rdIf) ?_
        clear hO
        refine Sim.takeP (i := 0) (d := some 24) (v := ?_) rfl rfl (by kernel_rfl) (by kernel_rfl) (by kernel_rfl) (fun _ _ _ h => h) (by first | exact XStab.true | exact XStab.rd | exact XStab.rdIf) ?_ ?_
        rotate_left
        · first | refine Or.inl ⟨by rfl, fun w => ?_⟩ | (refine Or.inr ⟨by rfl, ?_⟩; with_reducible rfl)
          first | done | (go_simp; all_goals with_reducible rfl)
        try simp only [Act.put, List.setIfInBounds_toArray, List.set_cons_zero, List.set_cons_succ]
        refine Sim.take (i := 1) (d := some 25) (v := ?_) rfl rfl (by kernel_rfl) (by kernel_rfl) (by kernel_rfl) (by kernel_rfl) (fun _ _ _ h => h) (by first | exact XStab.true | exact XStab.rd | exact XStab.rdIf) ?_ ?_
        rotate_left
        · first | refine Or.inl ⟨by rfl, fun w hO => ?_⟩ | (refine Or.inr ⟨by rfl, ?_⟩; with_reducible rfl)
          first | done | (have hF := hO; (try simp only [Own, Item.Holds, apartI, CellsAt, Nat.reduceAdd, Nat.zero_add, List.mem_cons, List.not_mem_nil, or_false, forall_eq_or_imp, forall_eq, ne_eq, false_imp_iff, implies_true, and_true] at hF); refine Out.same ?_; go_simp; all_goals with_reducible rfl)
        try simp only [Act.put, List.setIfInBounds_toArray, List.set_cons_zero, List.set_cons_succ]
        refine Sim.takeP (i := 2) (d := some 26) (v := ?_) rfl rfl (by kernel_rfl) (by kernel_rfl) (by kernel_rfl) (fun _ _ _ h => h) (by first | exact XStab.true | exact XStab.rd | exact XStab.rdIf) ?_ ?_
        rotate_left
        · first | refine Or.inl ⟨by rfl, fun w => ?_⟩ | (refine Or.inr ⟨by rfl, ?_⟩; with_reducible rfl)
          first | done | (go_simp; all_goals with_reducible rfl)
        try simp only [Act.put, List.setIfInBounds_toArray, List.set_cons_zero, List.set_cons_succ]
        refine Sim.one' (i := 3) (oi := { dst := some 27, op := Op.call { callee := Callee.value (Operand.func 35), args := #[Operand.tmp 26, Operand.const (Value.int IntKind.i64 3)], argTypes := #[44, 3] }, type := 3, pos := "l20_draw.go:377", after := #[{ on := 2, ground := Ground.data }], guard := none }) (by kernel_rfl) rfl (by rfl) (fun w0 hO hX K hK => ?_)
        have hF := hO; (try simp only [Own, Item.Holds, apartI, CellsAt, Nat.reduceAdd, Nat.zero_add, List.mem_cons, List.not_mem_nil, or_false, forall_eq_or_imp, forall_eq, ne_eq, false_imp_iff, implies_true, and_true] at hF)
        go_simp
        refine (pick_any r (P + 2 + 2 * (m : Int) + 1) _ _ hX (by omega) (by decide) (by decide)).mono ?_
        rintro e wa ⟨pk, lo, hi2, rfl, hR4, hB4⟩
        apply hK _ _ _ (XR r (P + 2 + 2 * (m : Int) + 1) 1)
        · exact Own.but hr0 (Stab.bd hr0) ⟨hO.base.1.trans hB4, hR4.mono (by omega)⟩ hB4 hO
        · exact trivial
        · exact XStab.true
        · exact fun _ _ h => h
        clear hR4 hB4
        clear hK K hF hO
        try simp only [Act.put, List.setIfInBounds_toArray, List.set_cons_zero, List.set_cons_succ]
        refine Sim.one' (i := 4) (oi := { dst := some 28, op := Op.buildSlice 23 1 #[(0, Operand.tmp 27)], type := 23, pos := "l20_draw.go:377", after := #[{ on := 3, ground := Ground.data }], guard := none }) (by kernel_rfl) rfl (by rfl) (fun w0 hO hX K hK => ?_)
        have hF := hO; (try simp only [Own, Item.Holds, apartI, CellsAt, Nat.reduceAdd, Nat.zero_add, List.mem_cons, List.not_mem_nil, or_false, forall_eq_or_imp, forall_eq, ne_eq, false_imp_iff, implies_true, and_true] at hF)
        go_simp
        apply hK _ _ _ (XR r (P + 2 + 2 * (m : Int) + 1) 1)
        (repeat (first | (with_reducible exact hO) | (with_reducible apply Own.alloc) | (with_reducible apply Own.drew) | ((with_reducible apply Own.set_at); (focus (show _ ≤ _; omega)))))
        · first | exact trivial | exact hX | exact hX.below (below1 _) | exact RdIf.gone | exact hX.keep ((Below.refl _ _).setCell (by first | omega | (dsimp only; omega)) _)
        · exact (by first | exact XStab.true | exact XStab.rd | exact XStab.rdIf)
        · first | exact fun _ _ h => h.2 | exact fun _ _ h => h | exact fun h => absurd h (by decide)
        try simp only [upd, updI, List.map_cons, List.map_nil, eq_self, if_true, if_false, reduceIte, Nat.add_eq_left, Nat.left_eq_add, Nat.reduceEqDiff, List.set_cons_zero, List.set_cons_succ, hF]
        clear hK K hF hO
        try simp only [Act.put, List.setIfInBounds_toArray, List.set_cons_zero, List.set_cons_succ]
        refine Sim.one' (i := 5) (oi := { dst := some 29, op := Op.call { callee := Callee.builtin Builtin.append, args := #[Operand.tmp 25, Operand.tmp 28], argTypes := #[23, 23] }, type := 23, pos := "l20_draw.go:377", after := #[{ on := 1, ground := Ground.data }, { on := 4, ground := Ground.data }, { on := 3, ground := Ground.chain }], guard := none }) (by kernel_rfl) rfl (by rfl) (fun w0 hO hX K hK => ?_)
        refine wp_append_item _ _ 23 rfl 3 i0 (.int .i64 0) 1 8 Tryd.underlying23 hi hz0 hz1 hz2 rfl (by decide) rfl rfl hO rfl one1 (by unfold maxLen; omega) (by omega) ?_
        clear hO
        intro v' w3 hO
        obtain ⟨A3, c3, hv3⟩ := (SlAt.of_row hO.1.1).form
        subst hv3
        apply hK _ _ _ (XR r (P + 2 + 2 * (m : Int) + 1) 1)
        · exact hO
        · exact trivial
        · exact XStab.true
        · exact fun h => absurd h (by decide)
        clear hO
        clear hK K
        try simp only [Act.put, List.setIfInBounds_toArray, List.set_cons_zero, List.set_cons_succ]
        refine Sim.takeP (i := 6) (d := some 30) (v := ?_) rfl rfl (by kernel_rfl) (by kernel_rfl) (by kernel_rfl) (fun _ _ _ h => h) (by first | exact XStab.true | exact XStab.rd | exact XStab.rdIf) ?_ ?_
        rotate_left
        · first | refine Or.inl ⟨by rfl, fun w => ?_⟩ | (refine Or.inr ⟨by rfl, ?_⟩; with_reducible rfl)
          first | done | (go_simp; all_goals with_reducible rfl)
        try simp only [Act.put, List.setIfInBounds_toArray, List.set_cons_zero, List.set_cons_succ]
        refine Sim.one' (i := 7) (oi := { dst := none, op := Op.store 23 (Operand.tmp 30) (Operand.tmp 29), type := 0, pos := "l20_draw.go:377", after := #[{ on := 6, ground := Ground.data }, { on := 5, ground := Ground.data }, { on := 5, ground := Ground.chain }, { on := 0, ground := Ground.phase }, { on := 1, ground := Ground.phase }, { on := 2, ground := Ground.phase }, { on := 3, ground := Ground.phase }, { on := 4, ground := Ground.phase }, { on := 5, ground := Ground.phase }], guard := none }) (by kernel_rfl) rfl (by rfl) (fun w0 hO hX K hK => ?_)
        have hF := hO; (try simp only [Own, Item.Holds, apartI, CellsAt, Nat.reduceAdd, Nat.zero_add, List.mem_cons, List.not_mem_nil, or_false, forall_eq_or_imp, forall_eq, ne_eq, false_imp_iff, implies_true, and_true] at hF)
        go_simp
        apply hK _ _ _ (XR r (P + 2 + 2 * (m : Int) + 1) 1)
        (repeat (first | (with_reducible exact hO) | (with_reducible apply Own.alloc) | (with_reducible apply Own.drew) | ((with_reducible apply Own.set_at); (focus (show _ ≤ _; omega)))))
        · first | exact trivial | exact hX | exact hX.below (below1 _) | exact RdIf.gone | exact hX.keep ((Below.refl _ _).setCell (by first | omega | (dsimp only; omega)) _)
        · exact (by first | exact XStab.true | exact XStab.rd | exact XStab.rdIf)
        · first | exact fun _ _ h => h.2 | exact fun _ _ h => h | exact fun h => absurd h (by decide)
        try simp only [upd, updI, List.map_cons, List.map_nil, eq_self, if_true, if_false, reduceIte, Nat.add_eq_left, Nat.left_eq_add, Nat.reduceEqDiff, List.set_cons_zero, List.set_cons_succ, hF]
        clear hK K hF hO
        try simp only [Act.put, List.setIfInBounds_toArray, List.set_cons_zero, List.set_cons_succ]
        refine Sim.done (by kernel_rfl) (fun w1 hO hX => ?_) _
        (try simp only [World.size_alloc1, World.size_drew, Nat.reduceAdd] at hO); (try simp only [upd, updI, List.map_cons, List.map_nil, eq_self, if_true, if_false, reduceIte, Nat.add_eq_left, Nat.left_eq_add, Nat.reduceEqDiff, List.set_cons_zero, List.set_cons_succ] at hO)
        have hF := hO; (try simp only [Own, Item.Holds, apartI, CellsAt, Nat.reduceAdd, Nat.zero_add, List.mem_cons, List.not_mem_nil, or_false, forall_eq_or_imp, forall_eq, ne_eq, false_imp_iff, implies_true, and_true] at hF)
        go_wp2_with fail
        go_roundw
        case rel => exact ⟨us ++ [pk], A3, c3, by rw [List.length_append, HJ.out.2.2]; go_num, by rw [List.length_append, HJ.out.2.2]; simp; omega, all_two hus.out pk (by omega), by
          rw [List.length_append, HJ.out.2.2, ← inC_up]
          exact hO.mono hr0 (by rw [List.length_singleton]; omega)⟩
        case measure => simp [intOf]; omega

/-- A call of l20Section: the section's row stands at the head. -/
theorem own_section {r : Nat} {w0 W : World} {P k : Int} {L : List Item} {K : Ending → World → Prop} (hO : Own w0.heap.size (Bd r w0 P) W L) (hr : r < w0.heap.size) (hP : P ≤ 800000) (k0 : 0 ≤ k) (k1 : k ≤ 1000000)
    (h : ∀ (s : Sec) (A : Option Addr) (c : Nat) w1, seOk s → Own w0.heap.size (Bd r w0 (P + 14)) w1 (.row 3 1 (.slice A s.e.length c) s.e.length (inC s.e) :: L) → K (.returned (.agg #[.int .i64 s.b, .int .i64 s.t, .slice A s.e.length c])) w1) :
    Calls Tryd.prog 26 #[.pointer (some ⟨r, 0, none⟩), .int .i64 k] W K :=
  (l20Section_any r P k W hO.base.2 hP k0 k1).mono fun e w1 ⟨s, A, c, hs, he, hrow, hR, hb⟩ => by
    subst he
    have h1 := hO.but hr (Stab.bd hr) ⟨hO.base.1.trans hb, hR⟩ hb
    refine h s A c w1 hs ⟨⟨ownsRow_mono hrow hO.low, fun x hx => .of fun g hg e => ?_⟩, h1⟩
    have a := (hO.lt x hx g hg).2
    have b := (World.ownsRow.lt hrow g e).1
    omega

theorem infoS9 : (Tryd.prog.info? 25).map (fun i => (i.zero, i.size, i.bytes)) = some (some (.agg #[.int .i64 0, .int .i64 0, .slice none 0 0]), 3, 40) := by kernel_rfl
theorem one3s {b t : Int} {A : Option Addr} {k c : Nat} : ∀ u ∈ [Value.int .i64 b, .int .i64 t, .slice A k c], u.oneCell' = true := by
  intro u hu
  simp at hu
  rcases hu with rfl | rfl | rfl <;> rfl
/-- What drawing sections leaves. -/
def DrewSs (r : Nat) (P : Int) (w : World) (e : Ending) (w' : World) : Prop :=
  ∃ (v : Value) (l : List Sec) (es : List (Value × List Value)), (∀ s ∈ l, seOk s) ∧ l.length ≤ 9 ∧ e = .returned v ∧ EsOf l es ∧ Own w.heap.size (Bd r w (P + 80)) w' (.row 25 3 v l.length (scC l (es.map (·.1))) :: rwI es)
theorem scC_up {l : List Sec} {es : List (Value × List Value)} (h : EsOf l es) (s : Sec) (ev : Value) : scC l (es.map (·.1)) ++ [.int .i64 s.b, .int .i64 s.t, ev] = scC (l ++ [s]) ((es ++ [(ev, inC s.e)]).map (·.1)) := by
  rw [List.map_append, scC_append (by rw [List.length_map, h.1])]
  rfl
theorem rwI_up (es : List (Value × List Value)) (A : Option Addr) (c : Nat) (e : List Int) (it : Item) : (it :: .row 3 1 (.slice A e.length c) e.length (inC e) :: rwI es).Perm (it :: rwI (es ++ [(.slice A e.length c, inC e)])) := by
  have h1 : rwI [(Value.slice A e.length c, inC e)] = [.row 3 1 (.slice A e.length c) e.length (inC e)] := by simp [rwI]
  rw [rwI_append, h1]
  exact List.Perm.cons it (List.perm_append_comm (l₁ := [_]) (l₂ := rwI es))
theorem all_se {l : List Sec} {s : Sec} (h : ∀ z ∈ l, seOk z) (hs : seOk s) : ∀ z ∈ l ++ [s], seOk z := fun z hz => by
  rcases List.mem_append.1 hz with h1 | h1
  · exact h z h1
  · simp at h1; subst h1; exact hs
/-- The length of a slice. -/
def lenS : Value → Nat
  | .slice _ n _ => n
  | _ => 0
end Go.Proofs.YtpfefbpmchigeaaDoor
