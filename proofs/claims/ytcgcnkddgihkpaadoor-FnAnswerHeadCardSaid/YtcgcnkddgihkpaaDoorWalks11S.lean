/- Chapter 11 in the model: chords of keys, degrees of chords, progressions, cadences. -/
import Derived.Test.YtcgcnkddgihkpaaDoorWalks10T
import Derived.Test.YtcgcnkddgihkpaaDoorWalks3S
import Derived.Test.YtcgcnkddgihkpaaDoorPure11
import Derived.Test.YtcgcnkddgihkpaaDoorIntC
import Derived.Test.YtcgcnkddgihkpaaDoorOwn
import Derived.Test.YtcgcnkddgihkpaaDoorWalks10S
import Derived.WalkLawsBesides
import Derived.Test.YtcgcnkddgihkpaaDoorWalks3I
import Derived.Test.YtcgcnkddgihkpaaDoorWalks1
import Derived.Test.YtcgcnkddgihkpaaDoorRegionD
namespace Go.Proofs.YtcgcnkddgihkpaaDoor
set_option linter.unusedSimpArgs false
set_option linter.unusedVariables false
set_option maxRecDepth 8000
open Go.RowKit

def ctN (sv : Bool) : Nat := if sv then 4 else 3
theorem stL_at {sv : Bool} {j : Nat} (hj : j < ctN sv) : (stL sv)[j]? = some (2 * (j : Int)) := by
  unfold ctN at hj
  cases sv
  · simp at hj
    rcases (show j = 0 ∨ j = 1 ∨ j = 2 by omega) with rfl | rfl | rfl <;> rfl
  · simp at hj
    rcases (show j = 0 ∨ j = 1 ∨ j = 2 ∨ j = 3 by omega) with rfl | rfl | rfl | rfl <;> rfl
theorem coL_n {f d : Int} (m sv : Bool) (h : coB f d = true) : (coL f m d sv).length = ctN sv := by
  unfold coL; rw [if_pos h, List.length_map]; cases sv <;> rfl
theorem coL_at {f d : Int} {m sv : Bool} {j : Nat} (h : coB f d = true) (hj : j < ctN sv) : (coL f m d sv)[j]? = some (plP f (28 + tonZ f m + d + 2 * (j : Int))) := by
  unfold coL; rw [if_pos h, List.getElem?_map, stL_at hj]; rfl
theorem coL_no {f d : Int} (m sv : Bool) (h : coB f d = false) : coL f m d sv = [] := by unfold coL; rw [h]; rfl
theorem coB_parts {f d : Int} (h : coB f d = true) : inB f (-7) 7 = true ∧ inB d 0 6 = true := by
  have : (keyB f && inB d 0 6) = true := h
  rwa [Bool.and_eq_true] at this
theorem take_up11 {T : List Pt} {x : Pt} {j : Nat} (hx : T[j]? = some x) : pcC (T.take j) ++ [.int .i64 x.s, .int .i64 x.a, .int .i64 x.o] = pcC (T.take (j + 1)) := by
  rw [List.take_add_one, hx]
  exact pcC_snoc _ _

set_option maxRecDepth 8000 in
set_option maxHeartbeats 4000000 in
theorem coS_false (f d : Int) (m : Bool) (w : World) (h : coB f d = true) :
    Calls Tryd.prog 52 #[.int .i64 f, .bool m, .int .i64 d, .bool false] w (RowOut 37 3 3 (pcC (coL f m d false)) w) := by
  have hO := Own.start w
  have hF := True.intro
  obtain ⟨i0, hi, hz0, hz1, hz2⟩ := info_parts infoPi
  obtain ⟨t0, t6⟩ := tonZ_bd f m
  obtain ⟨hb, hd⟩ := coB_parts h
  obtain ⟨f0, f1⟩ := inB_iff.1 hb
  obtain ⟨d0, d6⟩ := inB_iff.1 hd
  have HA := hid (show ∀ j : Nat, j < 3 → (coL f m d false)[j]? = some (plP f (28 + tonZ f m + d + 2 * (j : Int))) from fun j hj => coL_at h (show j < ctN false from hj))
  have HN := hid (show (coL f m d false).length = 3 from coL_n m false h)
  obtain ⟨T, hT⟩ : ∃ T, coL f m d false = T := ⟨_, rfl⟩
  rw [hT] at HA HN
  rw [hT]
  have HTO := hid (fun W => tonS_any f m W f0 f1)
  obtain ⟨t, ht⟩ : ∃ t, tonZ f m = t := ⟨_, rfl⟩
  rw [ht] at HTO HA t0 t6
  clear hT h ht
  go_enter Tryd.func52, Tryd.ntmps52
  go_wp2_with (go_at_call 55; refine (in_any _ _ _ _).mono ?_; rintro e w1 ⟨rfl, rfl⟩)
  go_loopw [9, 11] (fun u t wr => ∃ j : Nat, j ≤ 3 ∧ t = .int .i64 (2 * (j : Int)) ∧ Own w.heap.size (Below w.heap.size w) wr [.row 37 3 u j (pcC (T.take j))]) (fun _ t _ => (4 + 2 - intOf t).toNat)
  case atStart => exact ⟨0, by omega, rfl, hO.allocRow (cur := #[]) (k := 0) (cap := 0) 3 (by omega) (by unfold maxLen; omega) rfl⟩
  case round =>
    clear hO
    obtain ⟨j, hj, rfl, hO⟩ := hrel
    by_cases he : j = 3
    · subst he
      have HE := hid (show T.take 3 = T by rw [← HN.out, List.take_length])
      go_wp2
      go_ret
      rw [HE.out] at hO
      exact RowOut.mk hO
    · have hlt : j < 3 := by omega
      have hlt2 : 2 * (j : Int) ≤ 4 := by omega
      have q0 : 0 ≤ (28 + t + d + 2 * (j : Int)) % 7 := by omega
      have q1 : (28 + t + d + 2 * (j : Int)) % 7 ≤ 6 := by omega
      have HU := hid (take_up11 (HA.out j hlt))
      simp only [plP] at HU
      clear he
      go_wp2_with (first | (go_at_call 84; refine (HTO.out _).mono ?_; rintro e w1 ⟨rfl, rfl⟩) | (go_at_call 85; apply own_at hO; (repeat (first | (with_reducible exact hO) | (with_reducible apply Own.alloc) | (with_reducible apply Own.drew) | ((with_reducible apply Own.set_at); (focus (show _ ≤ _; omega))))); have hG := hF; clear hF; clear hO; intro hO; refine own_call hO (fun hB => altS_any _ _ _ q0 q1) ?_; clear hO; intro w1 hO; (try simp only [World.size_alloc1, World.size_drew, Nat.reduceAdd] at hO); (try simp only [upd, updI, List.map_cons, List.map_nil, eq_self, if_true, if_false, reduceIte, Nat.add_eq_left, Nat.left_eq_add, Nat.reduceEqDiff, List.set_cons_zero, List.set_cons_succ, hG] at hO); clear hG; have hF := hO; (try simp only [Own, Item.Holds, apartI, CellsAt, Nat.reduceAdd, Nat.zero_add, List.mem_cons, List.not_mem_nil, or_false, forall_eq_or_imp, forall_eq, ne_eq, false_imp_iff, implies_true, and_true] at hF)) | (at_builtin; refine wpList_append_item rfl _ _ 74 rfl 37 i0 (.agg #[.int .i64 0, .int .i64 0, .int .i64 0]) 3 24 Tryd.underlying74 hi hz0 hz1 hz2 rfl (by decide) rfl rfl (Own.alloc hO) rfl one3t (by unfold maxLen; omega) (by omega) ?_; clear hO hF; intro v' w2 hO _; have hF := True.intro))
      go_roundw
      case rel => exact ⟨j + 1, by omega, by go_num, by rw [← HU.out]; exact hO⟩
      case measure => simp [intOf]; omega

set_option maxRecDepth 8000 in
set_option maxHeartbeats 4000000 in
theorem coS_true (f d : Int) (m : Bool) (w : World) (h : coB f d = true) :
    Calls Tryd.prog 52 #[.int .i64 f, .bool m, .int .i64 d, .bool true] w (RowOut 37 3 4 (pcC (coL f m d true)) w) := by
  have hO := Own.start w
  have hF := True.intro
  obtain ⟨i0, hi, hz0, hz1, hz2⟩ := info_parts infoPi
  obtain ⟨t0, t6⟩ := tonZ_bd f m
  obtain ⟨hb, hd⟩ := coB_parts h
  obtain ⟨f0, f1⟩ := inB_iff.1 hb
  obtain ⟨d0, d6⟩ := inB_iff.1 hd
  have HA := hid (show ∀ j : Nat, j < 4 → (coL f m d true)[j]? = some (plP f (28 + tonZ f m + d + 2 * (j : Int))) from fun j hj => coL_at h (show j < ctN true from hj))
  have HN := hid (show (coL f m d true).length = 4 from coL_n m true h)
  obtain ⟨T, hT⟩ : ∃ T, coL f m d true = T := ⟨_, rfl⟩
  rw [hT] at HA HN
  rw [hT]
  have HTO := hid (fun W => tonS_any f m W f0 f1)
  obtain ⟨t, ht⟩ : ∃ t, tonZ f m = t := ⟨_, rfl⟩
  rw [ht] at HTO HA t0 t6
  clear hT h ht
  go_enter Tryd.func52, Tryd.ntmps52
  go_wp2_with (go_at_call 55; refine (in_any _ _ _ _).mono ?_; rintro e w1 ⟨rfl, rfl⟩)
  go_loopw [9, 11] (fun u t wr => ∃ j : Nat, j ≤ 4 ∧ t = .int .i64 (2 * (j : Int)) ∧ Own w.heap.size (Below w.heap.size w) wr [.row 37 3 u j (pcC (T.take j))]) (fun _ t _ => (6 + 2 - intOf t).toNat)
  case atStart => exact ⟨0, by omega, rfl, hO.allocRow (cur := #[]) (k := 0) (cap := 0) 3 (by omega) (by unfold maxLen; omega) rfl⟩
  case round =>
    clear hO
    obtain ⟨j, hj, rfl, hO⟩ := hrel
    by_cases he : j = 4
    · subst he
      have HE := hid (show T.take 4 = T by rw [← HN.out, List.take_length])
      go_wp2
      go_ret
      rw [HE.out] at hO
      exact RowOut.mk hO
    · have hlt : j < 4 := by omega
      have hlt2 : 2 * (j : Int) ≤ 6 := by omega
      have q0 : 0 ≤ (28 + t + d + 2 * (j : Int)) % 7 := by omega
      have q1 : (28 + t + d + 2 * (j : Int)) % 7 ≤ 6 := by omega
      have HU := hid (take_up11 (HA.out j hlt))
      simp only [plP] at HU
      clear he
      go_wp2_with (first | (go_at_call 84; refine (HTO.out _).mono ?_; rintro e w1 ⟨rfl, rfl⟩) | (go_at_call 85; apply own_at hO; (repeat (first | (with_reducible exact hO) | (with_reducible apply Own.alloc) | (with_reducible apply Own.drew) | ((with_reducible apply Own.set_at); (focus (show _ ≤ _; omega))))); have hG := hF; clear hF; clear hO; intro hO; refine own_call hO (fun hB => altS_any _ _ _ q0 q1) ?_; clear hO; intro w1 hO; (try simp only [World.size_alloc1, World.size_drew, Nat.reduceAdd] at hO); (try simp only [upd, updI, List.map_cons, List.map_nil, eq_self, if_true, if_false, reduceIte, Nat.add_eq_left, Nat.left_eq_add, Nat.reduceEqDiff, List.set_cons_zero, List.set_cons_succ, hG] at hO); clear hG; have hF := hO; (try simp only [Own, Item.Holds, apartI, CellsAt, Nat.reduceAdd, Nat.zero_add, List.mem_cons, List.not_mem_nil, or_false, forall_eq_or_imp, forall_eq, ne_eq, false_imp_iff, implies_true, and_true] at hF)) | (at_builtin; refine wpList_append_item rfl _ _ 74 rfl 37 i0 (.agg #[.int .i64 0, .int .i64 0, .int .i64 0]) 3 24 Tryd.underlying74 hi hz0 hz1 hz2 rfl (by decide) rfl rfl (Own.alloc hO) rfl one3t (by unfold maxLen; omega) (by omega) ?_; clear hO hF; intro v' w2 hO _; have hF := True.intro))
      go_roundw
      case rel => exact ⟨j + 1, by omega, by go_num, by rw [← HU.out]; exact hO⟩
      case measure => simp [intOf]; omega

theorem coB_not {f d : Int} (h : coB f d = false) : inB f (-7) 7 = false ∨ inB f (-7) 7 = true ∧ inB d 0 6 = false := by
  have : (inB f (-7) 7 && inB d 0 6) = false := h
  cases h1 : inB f (-7) 7
  · exact Or.inl rfl
  · rw [h1, Bool.true_and] at this
    exact Or.inr ⟨rfl, this⟩
theorem coS_no (f d : Int) (m sv : Bool) (w : World) (h : coB f d = false) :
    Calls Tryd.prog 52 #[.int .i64 f, .bool m, .int .i64 d, .bool sv] w (RowOut 37 3 0 [] w) := by
  have hO := Own.start w
  have hF := True.intro
  rcases coB_not h with h1 | ⟨h1, h2⟩
  all_goals
    clear h
    go_enter Tryd.func52, Tryd.ntmps52
    go_wp2_with (go_at_call 55; refine (in_any _ _ _ _).mono ?_; rintro e w1 ⟨rfl, rfl⟩)
    go_ret
    exact RowOut.mk (hO.allocRow (e := 37) (cur := #[]) (k := 0) (cap := 0) 3 (by omega) (by unfold maxLen; omega) rfl)
theorem coS_any (f d : Int) (m sv : Bool) (w : World) :
    Calls Tryd.prog 52 #[.int .i64 f, .bool m, .int .i64 d, .bool sv] w (RowOut 37 3 (coL f m d sv).length (pcC (coL f m d sv)) w) := by
  cases h : coB f d
  · rw [coL_no m sv h]; exact coS_no f d m sv w h
  · rw [coL_n m sv h]
    cases sv
    · exact coS_false f d m w h
    · exact coS_true f d m w h

/- Degrees of chords. -/
def ok3 (l t : List Pt) (j : Nat) : Bool := (l.take j).all fun x => pvP x && hasB t x
theorem ok3_up {l t : List Pt} {j : Nat} {x : Pt} (hx : l[j]? = some x) : ok3 l t (j + 1) = (ok3 l t j && (pvP x && hasB t x)) := by
  unfold ok3
  rw [List.take_add_one, hx, List.all_append]
  simp
theorem ok3_all {l t : List Pt} {n : Nat} (h : l.length = n) : ok3 l t n = l.all fun x => pvP x && hasB t x := by
  unfold ok3; rw [← h, List.take_length]
theorem deg_at {c : Nat} (h : c < 7) : degL[c]? = some (c : Int) := by
  obtain rfl | rfl | rfl | rfl | rfl | rfl | rfl : c = 0 ∨ c = 1 ∨ c = 2 ∨ c = 3 ∨ c = 4 ∨ c = 5 ∨ c = 6 := by omega
  all_goals rfl
theorem dg_none {f : Int} {m : Bool} {l : List Pt} {c : Int} (h1 : fitB l (coL f m c false) = false) (h2 : fitB l (coL f m c true) = false) : dgF f m l c = none := by
  unfold dgF; rw [h1, h2]; rfl
theorem dg_some {f : Int} {m : Bool} {l : List Pt} {c : Int} {sv : Bool} (h : fitB l (coL f m c sv) = true) : dgF f m l c = some c := by
  unfold dgF; cases sv <;> rw [h] <;> simp
theorem int_01 {n : Nat} (h : n < 2) : n = 0 ∨ n = 1 := by omega

/- What the functions of chapter 11 answer, as contracts. -/
def CCo (g : FuncId) (w : World) : Prop := ∀ (f d : Int) (m sv : Bool) (W : World), Below w.heap.size w W → r64 f → r64 d →
  Calls Tryd.prog g #[.int .i64 f, .bool m, .int .i64 d, .bool sv] W (RowOut 37 3 (coL f m d sv).length (pcC (coL f m d sv)) W)
def CDc (g : FuncId) (w : World) : Prop := ∀ (f : Int) (m : Bool) (va : Value) (l : List Pt) (W : World), Below w.heap.size w W → r64 f → SlAt W va l.length 3 (pcC l) → l.length ≤ 1048576 → (∀ x ∈ l, p64s x) →
  Calls Tryd.prog g #[.int .i64 f, .bool m, va] W fun e w' => e = .returned (.int .i64 (dcZ f m l)) ∧ Below W.heap.size W w'
theorem CCo.to {g : FuncId} {w wd : World} (h : CCo g w) (hb : Below w.heap.size w wd) : CCo g wd := fun f d m sv W hW => h f d m sv W (btr hb hW)
theorem CDc.to {g : FuncId} {w wd : World} (h : CDc g w) (hb : Below w.heap.size w wd) : CDc g wd := fun f m va l W hW => h f m va l W (btr hb hW)
theorem CCo.is {g : FuncId} {w : World} (h : CCo g w) {f d : Int} {m sv : Bool} {k : Nat} {t : List Pt} (hf : r64 f) (hd : r64 d) (ht : coL f m d sv = t) (hk : t.length = k) (W : World) (hW : Below w.heap.size w W) :
    Calls Tryd.prog g #[.int .i64 f, .bool m, .int .i64 d, .bool sv] W (RowOut 37 3 k (pcC t) W) := by
  subst ht hk; exact h f d m sv W hW hf hd
theorem CDc.is {g : FuncId} {w : World} (h : CDc g w) {f : Int} {m : Bool} {l : List Pt} {n : Nat} {z : Int} (hf : r64 f) (hm : l.length = n) (hn : n ≤ 1048576) (hr : ∀ x ∈ l, p64s x) (hz : dcZ f m l = z) (va : Value) (W : World) (hW : Below w.heap.size w W) (hs : SlAt W va n 3 (pcC l)) :
    Calls Tryd.prog g #[.int .i64 f, .bool m, va] W fun e w' => e = .returned (.int .i64 z) ∧ Below W.heap.size W w' := by
  subst hm hz; exact h f m va l W hW hf hs hn hr

theorem coS_C (w : World) : CCo 52 w := fun f d m sv W _ _ _ => coS_any f d m sv W

/- Chapter 11, progressions and cadences: the model and the program. -/
open Go.RowKit

theorem pf_end {l : List Int} {i k : Nat} (h : l.length ≤ i + 1) : pfF k (l.drop i) = -1 := by
  have h1 : (l.drop i).length ≤ 1 := by rw [List.length_drop]; omega
  cases hd : l.drop i with
  | nil => rfl
  | cons a t =>
    cases t with
    | nil => rfl
    | cons b t => rw [hd] at h1; simp at h1
theorem pf_step {l : List Int} {i k : Nat} {a b : Int} (ha : l[i]? = some a) (hb : l[i + 1]? = some b) : pfF k (l.drop i) = if badB a b then (k : Int) else pfF (k + 1) (l.drop (i + 1)) := by
  obtain ⟨h1, g1⟩ := List.getElem?_eq_some_iff.1 ha
  obtain ⟨h2, g2⟩ := List.getElem?_eq_some_iff.1 hb
  rw [List.drop_eq_getElem_cons h1, List.drop_eq_getElem_cons h2, g1, g2, pfF]
theorem pf_start {l : List Int} (h : (l.all fun d => inB d 0 6) = true) : pfZ l = pfF 1 (l.drop 0) := by unfold pfZ; rw [h]; rfl
theorem pf_bad {l : List Int} {x : Int} (hx : x ∈ l) (h : inB x 0 6 = false) : pfZ l = -1 := by
  unfold pfZ
  rw [if_neg]
  intro hc
  have := List.all_eq_true.1 hc x hx
  rw [h] at this
  cases this
theorem all_ixN {l : List Int} {p : Int → Bool} {n : Nat} (hn : l.length = n) (h : ∀ (i : Nat) (x : Int), i < n → l[i]? = some x → p x = true) : l.all p = true := by
  rw [List.all_eq_true]
  intro x hx
  obtain ⟨i, hi, rfl⟩ := List.getElem_of_mem hx
  exact h i _ (by omega) (List.getElem?_eq_getElem hi)
theorem upto_N {l : List Int} {p : Int → Bool} {k : Nat} {x : Int} (h : ∀ (i : Nat) (z : Int), i < k → l[i]? = some z → p z = true) (hx : l[k]? = some x) (hp : p x = true) : ∀ (i : Nat) (z : Int), i < k + 1 → l[i]? = some z → p z = true := fun i z hi hz => by
  rcases (show i < k ∨ i = k by omega) with h' | rfl
  · exact h i z h' hz
  · rw [hx] at hz; cases hz; exact hp
theorem four_six (a : Int) : a = 4 ∨ a = 6 ∨ (a ≠ 4 ∧ a ≠ 6) := by omega
theorem one_three (a : Int) : a = 1 ∨ a = 3 ∨ (a ≠ 1 ∧ a ≠ 3) := by omega
theorem beqF {a b : Int} (h : a ≠ b) : (a == b) = false := by simp [h]
theorem badB_no1 {a b : Int} (h4 : a ≠ 4) (h6 : a ≠ 6) : badB a b = false := by unfold badB; rw [beqF h4, beqF h6]; rfl
theorem badB_no2 {a b : Int} (h1 : b ≠ 1) (h3 : b ≠ 3) : badB a b = false := by unfold badB; rw [beqF h1, beqF h3]; simp

/- Cadences. -/
theorem getD_N {l : List Int} {j : Nat} {x : Int} (h : l[j]? = some x) : l.getD j 0 = x := by rw [List.getD_eq_getElem?_getD, h]; rfl
theorem cd_last {l : List Int} {p : Nat} {a b : Int} (hp : l.length = p + 2) (ha : l[p]? = some a) (hb : l[p + 1]? = some b) : cdZ l = cdB a b := by
  unfold cdZ
  rw [if_neg (by omega), hp, show p + 2 - 2 = p by omega, show p + 2 - 1 = p + 1 by omega, getD_N ha, getD_N hb]
theorem a_cases (a : Int) : a = 4 ∨ a = 3 ∨ (a ≠ 4 ∧ a ≠ 3) := by omega
theorem b_cases (b : Int) : b = 0 ∨ b = 5 ∨ b = 4 ∨ (b ≠ 0 ∧ b ≠ 5 ∧ b ≠ 4) := by omega

/- What they answer, as contracts. -/
def CZ1 (z : List Int → Int) (g : FuncId) (w : World) : Prop := ∀ (va : Value) (l : List Int) (W : World), Below w.heap.size w W → SlAt W va l.length 1 (intC l) → l.length ≤ 1048576 →
  Calls Tryd.prog g #[va] W fun e w' => e = .returned (.int .i64 (z l)) ∧ Below W.heap.size W w'
theorem CZ1.to {z : List Int → Int} {g : FuncId} {w wd : World} (h : CZ1 z g w) (hb : Below w.heap.size w wd) : CZ1 z g wd := fun va l W hW => h va l W (btr hb hW)
theorem CZ1.is {z : List Int → Int} {g : FuncId} {w : World} (h : CZ1 z g w) {l : List Int} {n : Nat} {y : Int} (hm : l.length = n) (hn : n ≤ 1048576) (hz : z l = y) (va : Value) (W : World) (hW : Below w.heap.size w W) (hs : SlAt W va n 1 (intC l)) :
    Calls Tryd.prog g #[va] W fun e w' => e = .returned (.int .i64 y) ∧ Below W.heap.size W w' := by
  subst hm hz; exact h va l W hW hs hn

/- Chapter 11 in the program: the table of a key's chords; chords of keys, degrees of chords. -/
open Go.RowKit Go.Joins

/-- The chords of a key, one behind the other. -/
def keT (f : Int) (m : Bool) : List Pt := (List.range 28).map fun (i : Nat) => plP f (28 + tonZ f m + ((i / 4 : Nat) : Int) + 2 * ((i % 4 : Nat) : Int))
theorem keT_len (f : Int) (m : Bool) : (keT f m).length = 28 := by simp [keT]
theorem keT_at {f : Int} {m : Bool} {d t : Nat} (hd : d < 7) (ht : t < 4) : (keT f m)[4 * d + t]? = some (plP f (28 + tonZ f m + (d : Int) + 2 * (t : Int))) := by
  unfold keT
  rw [List.getElem?_map, List.getElem?_range (by omega)]
  show some (plP f (28 + tonZ f m + (((4 * d + t) / 4 : Nat) : Int) + 2 * (((4 * d + t) % 4 : Nat) : Int))) = _
  rw [show (4 * d + t) / 4 = d by omega, show (4 * d + t) % 4 = t by omega]
theorem coB_of {f : Int} {d : Nat} (hk : keyB f = true) (hd : d < 7) : coB f (d : Int) = true := by
  unfold coB; rw [hk, inB_iff.2 (by omega)]; rfl
theorem ctN_le (sv : Bool) : 3 ≤ ctN sv ∧ ctN sv ≤ 4 := by cases sv <;> simp [ctN]
theorem keT_row {f : Int} {m : Bool} {d : Nat} (hk : keyB f = true) (hd : d < 7) (sv : Bool) : ((keT f m).drop (4 * d)).take (ctN sv) = coL f m d sv := by
  have hc := coB_of hk hd
  have h4 := ctN_le sv
  refine List.ext_getElem? fun j => ?_
  by_cases hj : j < ctN sv
  · rw [List.getElem?_take_of_lt hj, List.getElem?_drop, keT_at hd (by omega), coL_at hc hj]
  · rw [List.getElem?_eq_none (by rw [List.length_take]; omega), List.getElem?_eq_none (by rw [coL_n m sv hc]; omega)]
theorem pcC_take (v : List Pt) (k : Nat) : pcC (v.take k) = (pcC v).take (k * 3) := by
  by_cases h : k ≤ v.length
  · have e : pcC v = pcC (v.take k) ++ pcC (v.drop k) := by rw [← pcC_append, List.take_append_drop]
    have hl : (pcC (v.take k)).length = k * 3 := by rw [pcC_len, List.length_take]; congr 1; omega
    rw [e, ← hl, List.take_left]
  · rw [List.take_of_length_le (by omega), List.take_of_length_le (by rw [pcC_len]; omega)]
theorem pcC_dropE (v : List Pt) (k : Nat) : pcC (v.drop k) = (pcC v).drop (k * 3) := by
  by_cases h : k ≤ v.length
  · have e : pcC v = pcC (v.take k) ++ pcC (v.drop k) := by rw [← pcC_append, List.take_append_drop]
    have hl : (pcC (v.take k)).length = k * 3 := by rw [pcC_len, List.length_take]; congr 1; omega
    rw [e, ← hl, List.drop_left]
  · rw [List.drop_eq_nil_of_le (by omega), List.drop_eq_nil_of_le (by rw [pcC_len]; omega)]; rfl
/-- The row of a degree, as the table by value gives it. -/
theorem keT_cells {f : Int} {m : Bool} {d : Nat} (hk : keyB f = true) (hd : d < 7) : ((pcC (keT f m)).drop (d * 12)).take 12 = pcC (coL f m d true) := by
  rw [← keT_row (m := m) hk hd true, pcC_take, pcC_dropE]
  rw [show 4 * d * 3 = d * 12 by omega]
  rfl
theorem coL_take {f d : Int} (m : Bool) : (coL f m d true).take 3 = coL f m d false := by
  unfold coL
  split
  · rfl
  · rfl
theorem pcC_one (v : List Pt) : (pcC v).all (·.oneCell') = true := by
  rw [List.all_eq_true]
  intro u hu
  unfold pcC at hu
  obtain ⟨x, _, hx⟩ := List.mem_flatMap.1 hu
  simp [ptC] at hx
  rcases hx with rfl | rfl | rfl <;> rfl
theorem slAt_takeP {w : World} {b off cap n m : Nat} {v : List Pt} (h : SlAt w (.slice (some ⟨b, off, none⟩) n cap) n 3 (pcC v)) (hm : m ≤ n) : SlAt w (.slice (some ⟨b, off, none⟩) m cap) m 3 (pcC (v.take m)) := by
  have hl := h.1
  rw [pcC_len] at hl
  rcases h.2 with ⟨h1, _⟩ | ⟨b', off', cap', h1, h2, h3, h4, h5⟩
  · cases h1
  · cases h1
    refine ⟨by rw [pcC_len, List.length_take]; congr 1; omega, Or.inr ⟨b, off, cap, rfl, by omega, h3, h4, fun j u hj => h5 j u ?_⟩⟩
    rw [pcC_take] at hj
    have hlt := (List.getElem?_eq_some_iff.1 hj).1
    rw [List.length_take] at hlt
    rwa [List.getElem?_take_of_lt (by omega)] at hj

/- Degrees of chords. -/
theorem fit_of {l T : List Pt} (hv : l.all pvP = true) : fitB l T = (l.all (hasB T) && T.all (hasB l)) := by
  unfold fitB
  rw [all_and, hv, Bool.true_and]
theorem dc_start {f : Int} {m : Bool} {l : List Pt} (hk : keyB f = true) (hv : l.all pvP = true) (h12 : l.length ≤ 12) : dcZ f m l = ((degL.drop 0).findSome? (dgF f m l)).getD (-1) := by
  unfold dcZ
  rw [hk, decide_eq_true h12]
  by_cases h1 : 1 ≤ l.length
  · rw [decide_eq_true h1]; rfl
  · obtain rfl : l = [] := List.eq_nil_of_length_eq_zero (by omega)
    rw [decide_eq_false h1]
    have key : ∀ (d : Nat), d < 7 → dgF f m [] (d : Int) = none := fun d hd => by
      have hc := coB_of hk hd
      refine dg_none ?_ ?_
      all_goals
        unfold fitB
        rw [Bool.and_eq_false_iff]
        right
        rw [← Bool.not_eq_true, List.all_eq_true]
        intro h
        have hx := coL_at (m := m) (sv := false) (j := 0) hc (by simp [ctN])
        have hy := coL_at (m := m) (sv := true) (j := 0) hc (by simp [ctN])
        first | exact absurd (h _ (List.mem_of_getElem? hx)) (by simp [hasB]) | exact absurd (h _ (List.mem_of_getElem? hy)) (by simp [hasB])
    have e : degL.findSome? (dgF f m []) = none := by
      rw [List.findSome?_eq_none_iff]
      intro x hx
      obtain ⟨d, hd, rfl⟩ : ∃ d : Nat, d < 7 ∧ x = d := by
        unfold degL at hx
        simp at hx
        exact ⟨x.toNat, by omega, by omega⟩
      exact key d hd
    show -1 = ((degL.drop 0).findSome? (dgF f m [])).getD (-1)
    rw [List.drop_zero, e]
    rfl
theorem dc_bad {f : Int} {m : Bool} {l : List Pt} (h : (l.all pvP && decide (l.length ≤ 12)) = false) : dcZ f m l = -1 := by
  unfold dcZ
  split
  · rename_i hc
    simp only [Bool.and_eq_true, decide_eq_true_eq] at hc
    rw [decide_eq_true hc.2.2, Bool.and_true] at h
    have e : degL.findSome? (dgF f m l) = none := by
      rw [List.findSome?_eq_none_iff]
      intro x _
      have hf : ∀ T, fitB l T = false := fun T => by
        unfold fitB
        rw [all_and, h]
        rfl
      exact dg_none (hf _) (hf _)
    rw [e]; rfl
  · rfl
theorem dc_key {f : Int} {m : Bool} {l : List Pt} (h : keyB f = false) : dcZ f m l = -1 := by
  unfold dcZ; rw [h]; rfl