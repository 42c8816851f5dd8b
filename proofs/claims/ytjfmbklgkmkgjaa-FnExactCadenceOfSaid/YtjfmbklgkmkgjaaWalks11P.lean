/- Chapter 11, progressions and cadences: the model and the program. -/
import Derived.Test.YtjfmbklgkmkgjaaWalksInt
import Derived.Test.YtjfmbklgkmkgjaaWalks3K
import Derived.Test.YtjfmbklgkmkgjaaPure11
namespace Go.Proofs.Ytjfmbklgkmkgjaa
set_option linter.unusedSimpArgs false
set_option linter.unusedVariables false
set_option maxRecDepth 8000
open Go.RowKit

theorem pf_end {l : List Int} {i k : Nat} (h : l.length ≤ i + 1) : pfF k (l.drop i) = -1 := by
  have h1 : (l.drop i).length ≤ 1 := by rw [List.length_drop]; omega
  cases hd : l.drop i with
  | nil => rfl
  | cons a t =>
    cases t with
    | nil => rfl
    | cons b t => rw [hd] at h1; simp at h1
theorem pf_step {l : List Int} {i k : Nat} {a b : Int} (ha : l[i]? = some a) (hb : l[i + 1]? = some b) : pfF k (l.drop i) = if badB a b then (k : Int) else pfF (k + 1) (l.drop (i + 1)) := by
  obtain ⟨h1, g1⟩ := List.getElem?_eq_some_iff.1 ha
  obtain ⟨h2, g2⟩ := List.getElem?_eq_some_iff.1 hb
  rw [List.drop_eq_getElem_cons h1, List.drop_eq_getElem_cons h2, g1, g2, pfF]
theorem pf_start {l : List Int} (h : (l.all fun d => inB d 0 6) = true) : pfZ l = pfF 1 (l.drop 0) := by unfold pfZ; rw [h]; rfl
theorem pf_bad {l : List Int} {x : Int} (hx : x ∈ l) (h : inB x 0 6 = false) : pfZ l = -1 := by
  unfold pfZ
  rw [if_neg]
  intro hc
  have := List.all_eq_true.1 hc x hx
  rw [h] at this
  cases this
theorem all_ixN {l : List Int} {p : Int → Bool} {n : Nat} (hn : l.length = n) (h : ∀ (i : Nat) (x : Int), i < n → l[i]? = some x → p x = true) : l.all p = true := by
  rw [List.all_eq_true]
  intro x hx
  obtain ⟨i, hi, rfl⟩ := List.getElem_of_mem hx
  exact h i _ (by omega) (List.getElem?_eq_getElem hi)
theorem upto_N {l : List Int} {p : Int → Bool} {k : Nat} {x : Int} (h : ∀ (i : Nat) (z : Int), i < k → l[i]? = some z → p z = true) (hx : l[k]? = some x) (hp : p x = true) : ∀ (i : Nat) (z : Int), i < k + 1 → l[i]? = some z → p z = true := fun i z hi hz => by
  rcases (show i < k ∨ i = k by omega) with h' | rfl
  · exact h i z h' hz
  · rw [hx] at hz; cases hz; exact hp
theorem four_six (a : Int) : a = 4 ∨ a = 6 ∨ (a ≠ 4 ∧ a ≠ 6) := by omega
theorem one_three (a : Int) : a = 1 ∨ a = 3 ∨ (a ≠ 1 ∧ a ≠ 3) := by omega
theorem beqF {a b : Int} (h : a ≠ b) : (a == b) = false := by simp [h]
theorem badB_no1 {a b : Int} (h4 : a ≠ 4) (h6 : a ≠ 6) : badB a b = false := by unfold badB; rw [beqF h4, beqF h6]; rfl
theorem badB_no2 {a b : Int} (h1 : b ≠ 1) (h3 : b ≠ 3) : badB a b = false := by unfold badB; rw [beqF h1, beqF h3]; simp

set_option maxRecDepth 8000 in
set_option maxHeartbeats 4000000 in
theorem pfS_any (va : Value) (l : List Int) (w : World) (hs : SlAt w va l.length 1 (intC l)) (hn : l.length ≤ 1048576) :
    Calls Try.prog 5 #[va] w fun e w' => e = .returned (.int .i64 (pfZ l)) ∧ Below w.heap.size w w' := by
  have hO := Own.start w
  have hF := True.intro
  obtain ⟨A, c, rfl, nb, hA⟩ := hs.open
  have HA := hid hs
  clear hs
  obtain ⟨n, hnl⟩ : ∃ n, l.length = n := ⟨_, rfl⟩
  have HN := hid hnl
  rw [hnl] at hn nb hA HA ⊢
  clear hnl
  go_enter Try.func5, Try.ntmps5
  go_wp2_with fail
  go_loopw [3] (fun t wr => ∃ k : Nat, k ≤ n ∧ t = .int .i64 k ∧ Hid (∀ (i : Nat) (x : Int), i < k → l[i]? = some x → inB x 0 6 = true) ∧ Own w.heap.size (Below w.heap.size w) wr []) (fun t _ => n - (intOf t).toNat)
  case atStart => exact ⟨0, by omega, rfl, fun i x h => by omega, hO⟩
  case round =>
    clear hO hF
    obtain ⟨k, hk, rfl, hv, hO⟩ := hrel
    have hF := hO; (try simp only [Own, Item.Holds, apartI, CellsAt, Nat.reduceAdd, Nat.zero_add, List.mem_cons, List.not_mem_nil, or_false, forall_eq_or_imp, forall_eq, ne_eq, false_imp_iff, implies_true, and_true] at hF)
    by_cases he : k = n
    · subst he
      have HZ := hid (show pfZ l = pfF (0 + 1) (l.drop 0) from pf_start (all_ixN HN.out hv.out))
      clear hv
      go_wp2_with fail
      go_loopw [4] (fun t wr => ∃ i : Nat, t = .int .i64 ((i : Int) + 1) ∧ (i : Int) ≤ 1048576 ∧ Hid (pfZ l = pfF (i + 1) (l.drop i)) ∧ Own w.heap.size (Below w.heap.size w) wr []) (fun t _ => k + 1 - (intOf t).toNat)
      case atStart => exact ⟨0, rfl, by omega, HZ, hO⟩
      case round =>
        clear hO hF
        obtain ⟨i, rfl, hi9, HP, hO⟩ := hrel
        have hF := hO; (try simp only [Own, Item.Holds, apartI, CellsAt, Nat.reduceAdd, Nat.zero_add, List.mem_cons, List.not_mem_nil, or_false, forall_eq_or_imp, forall_eq, ne_eq, false_imp_iff, implies_true, and_true] at hF)
        by_cases he : i + 1 < k
        · have h1 : (i : Int) + 1 < (k : Int) := by omega
          have h2 : (i : Int) < (k : Int) := by omega
          have h3 : (0 : Int) ≤ (i : Int) := by omega
          have h4 : (0 : Int) ≤ (i : Int) + 1 := by omega
          have wi : IntKind.i64.wrap ((i : Int) + 1 - 1) = (i : Int) := by rw [show (i : Int) + 1 - 1 = (i : Int) by omega]; exact IntWalk.i64_in _ (by omega)
          have wi2 : IntKind.i64.wrap (i : Int) = (i : Int) := IntWalk.i64_in _ (by omega)
          have wj : IntKind.i64.wrap ((i : Int) + 1 + 1) = (i : Int) + 1 + 1 := IntWalk.i64_in _ (by omega)
          obtain ⟨b, off, rfl, hc1, hc2, hb⟩ := hA (by omega)
          obtain ⟨x, hx⟩ : ∃ x, l[i]? = some x := ⟨_, List.getElem?_eq_getElem (by have := HN.out; omega)⟩
          obtain ⟨y, hy⟩ : ∃ x, l[i + 1]? = some x := ⟨_, List.getElem?_eq_getElem (by have := HN.out; omega)⟩
          have d0 := inAt (HA.out.below hO.base) hx
          have g0 := inAt (HA.out.below hO.base) hy
          have HS := hid (HP.out.trans (pf_step hx hy))
          clear he hx hy
          rcases four_six x with rfl | rfl | ⟨hx1, hx2⟩
          case inr.inr =>
            have z1 := beqF hx1
            have z2 := beqF hx2
            have HU := hid (HS.out.trans (if_neg (by rw [badB_no1 hx1 hx2]; exact Bool.false_ne_true)))
            clear HS
            go_wp2_with fail
            go_roundw
            case rel => exact ⟨i + 1, by go_num, by omega, HU.out, hO⟩
            case measure => simp [intOf]; omega
          all_goals
            rcases one_three y with rfl | rfl | ⟨hy1, hy2⟩
            case inr.inr =>
              have z1 := beqF hy1
              have z2 := beqF hy2
              have HU := hid (HS.out.trans (if_neg (by rw [badB_no2 hy1 hy2]; exact Bool.false_ne_true)))
              clear HS
              go_wp2_with fail
              go_roundw
              case rel => exact ⟨i + 1, by go_num, by omega, HU.out, hO⟩
              case measure => simp [intOf]; omega
            all_goals
              have HU := hid (HS.out.trans (if_pos rfl))
              clear HS
              go_wp2_with fail
              go_ret
              exact ⟨ret_int (by rw [HU.out]; push_cast; rfl), hO.base⟩
        · have h1 : ¬ ((i : Int) + 1 < (k : Int)) := by omega
          have HU := hid (HP.out.trans (pf_end (by have := HN.out; omega)))
          clear he
          go_wp2_with fail
          go_ret
          exact ⟨ret_int HU.out.symm, hO.base⟩
    · have hkl : k < n := by omega
      have hkl2 : (k : Int) < n := by omega
      obtain ⟨b, off, rfl, hc1, hc2, hb⟩ := hA (by omega)
      obtain ⟨x, hx⟩ : ∃ x, l[k]? = some x := ⟨_, List.getElem?_eq_getElem (by have := HN.out; omega)⟩
      have d0 := inAt (HA.out.below hO.base) hx
      have HX := hid hx
      cases hd : inB x 0 6
      · have HU := hid (pf_bad (List.mem_of_getElem? hx) hd)
        have HI := hid (fun W => in_is (n := x) W hd)
        clear he hx hd
        go_wp2_with (go_at_call 11; apply own_at hO; (repeat (first | (with_reducible exact hO) | (with_reducible apply Own.alloc) | (with_reducible apply Own.drew) | ((with_reducible apply Own.set_at); (focus (show _ ≤ _; omega))))); have hG := hF; clear hF; clear hO; intro hO; refine own_call hO (fun hB => HI.out _) ?_; clear hO; intro w1 hO; (try simp only [World.size_alloc1, World.size_drew, Nat.reduceAdd] at hO); (try simp only [upd, updI, List.map_cons, List.map_nil, eq_self, if_true, if_false, reduceIte, Nat.add_eq_left, Nat.left_eq_add, Nat.reduceEqDiff, List.set_cons_zero, List.set_cons_succ, hG] at hO); clear hG; have hF := hO; (try simp only [Own, Item.Holds, apartI, CellsAt, Nat.reduceAdd, Nat.zero_add, List.mem_cons, List.not_mem_nil, or_false, forall_eq_or_imp, forall_eq, ne_eq, false_imp_iff, implies_true, and_true] at hF))
        go_ret
        exact ⟨ret_int HU.out.symm, Own.base (by (repeat (first | (with_reducible exact hO) | (with_reducible apply Own.alloc) | (with_reducible apply Own.drew) | ((with_reducible apply Own.set_at); (focus (show _ ≤ _; omega))))))⟩
      · have HU := hid (upto_N hv.out hx hd)
        have HI := hid (fun W => in_is (n := x) W hd)
        clear he hx hd
        go_wp2_with (go_at_call 11; apply own_at hO; (repeat (first | (with_reducible exact hO) | (with_reducible apply Own.alloc) | (with_reducible apply Own.drew) | ((with_reducible apply Own.set_at); (focus (show _ ≤ _; omega))))); have hG := hF; clear hF; clear hO; intro hO; refine own_call hO (fun hB => HI.out _) ?_; clear hO; intro w1 hO; (try simp only [World.size_alloc1, World.size_drew, Nat.reduceAdd] at hO); (try simp only [upd, updI, List.map_cons, List.map_nil, eq_self, if_true, if_false, reduceIte, Nat.add_eq_left, Nat.left_eq_add, Nat.reduceEqDiff, List.set_cons_zero, List.set_cons_succ, hG] at hO); clear hG; have hF := hO; (try simp only [Own, Item.Holds, apartI, CellsAt, Nat.reduceAdd, Nat.zero_add, List.mem_cons, List.not_mem_nil, or_false, forall_eq_or_imp, forall_eq, ne_eq, false_imp_iff, implies_true, and_true] at hF))
        go_roundw
        case rel => exact ⟨k + 1, by omega, by go_num, HU.out, hO⟩
        case measure => simp [intOf]; omega

/- Cadences. -/
theorem getD_N {l : List Int} {j : Nat} {x : Int} (h : l[j]? = some x) : l.getD j 0 = x := by rw [List.getD_eq_getElem?_getD, h]; rfl
theorem cd_last {l : List Int} {p : Nat} {a b : Int} (hp : l.length = p + 2) (ha : l[p]? = some a) (hb : l[p + 1]? = some b) : cdZ l = cdB a b := by
  unfold cdZ
  rw [if_neg (by omega), hp, show p + 2 - 2 = p by omega, show p + 2 - 1 = p + 1 by omega, getD_N ha, getD_N hb]
theorem a_cases (a : Int) : a = 4 ∨ a = 3 ∨ (a ≠ 4 ∧ a ≠ 3) := by omega
theorem b_cases (b : Int) : b = 0 ∨ b = 5 ∨ b = 4 ∨ (b ≠ 0 ∧ b ≠ 5 ∧ b ≠ 4) := by omega

set_option maxRecDepth 8000 in
set_option maxHeartbeats 4000000 in
theorem cdS_any (va : Value) (l : List Int) (w : World) (hs : SlAt w va l.length 1 (intC l)) (hn : l.length ≤ 1048576) :
    Calls Try.prog 9 #[va] w fun e w' => e = .returned (.int .i64 (cdZ l)) ∧ Below w.heap.size w w' := by
  have hO := Own.start w
  have hF := True.intro
  obtain ⟨A, c, rfl, nb, hA⟩ := hs.open
  have HA := hid hs
  clear hs
  by_cases h2 : l.length < 2
  · have h2' : (l.length : Int) < 2 := by omega
    have HE := hid (show cdZ l = 0 by unfold cdZ; rw [if_pos h2])
    clear h2
    go_enter Try.func9, Try.ntmps9
    go_wp2_with fail
    go_ret
    exact ⟨ret_int HE.out.symm, hO.base⟩
  · obtain ⟨p, hp⟩ : ∃ p, l.length = p + 2 := ⟨l.length - 2, by omega⟩
    obtain ⟨b, off, rfl, hc1, hc2, hb⟩ := hA (by omega)
    obtain ⟨x, hx⟩ : ∃ x, l[p]? = some x := ⟨_, List.getElem?_eq_getElem (by omega)⟩
    obtain ⟨y, hy⟩ : ∃ x, l[p + 1]? = some x := ⟨_, List.getElem?_eq_getElem (by omega)⟩
    have HE := hid (cd_last hp hx hy)
    have HX := hid (And.intro hx hy)
    have d0 := inAt HA.out hx
    have g0 := inAt HA.out hy
    rw [hp] at HA hc1 hn nb ⊢
    have p0 : (0 : Int) ≤ (p : Int) := by omega
    have p1 : (p : Int) < (p : Int) + 2 := by omega
    have p2 : (0 : Int) ≤ (p : Int) + 1 := by omega
    have p3 : (p : Int) + 1 < (p : Int) + 2 := by omega
    have p4 : ¬ (p : Int) + 2 < 2 := by omega
    have w0 : IntKind.i64.wrap ((p : Int) + 2 - 2) = (p : Int) := by rw [show (p : Int) + 2 - 2 = (p : Int) by omega]; exact IntWalk.i64_in _ (by omega)
    have w1 : IntKind.i64.wrap (p : Int) = (p : Int) := IntWalk.i64_in _ (by omega)
    have w2 : IntKind.i64.wrap ((p : Int) + 2 - 1) = (p : Int) + 1 := by rw [show (p : Int) + 2 - 1 = (p : Int) + 1 by omega]; exact IntWalk.i64_in _ (by omega)
    have w3 : IntKind.i64.wrap ((p : Int) + 1) = (p : Int) + 1 := IntWalk.i64_in _ (by omega)
    clear hp h2 hA hx hy hn
    rcases a_cases x with rfl | rfl | ⟨hx1, hx2⟩ <;> rcases b_cases y with rfl | rfl | rfl | ⟨hy1, hy2, hy3⟩
    all_goals
      try have x1 := beqF hx1
      try have x2 := beqF hx2
      try have x3 : (x != 4) = true := by simp [hx1]
      try have HX1 := hid (And.intro hx1 hx2)
      try clear hx1 hx2
      try have y1 := beqF hy1
      try have y2 := beqF hy2
      try have y3 := beqF hy3
      try have HY1 := hid (And.intro hy1 (And.intro hy2 hy3))
      try clear hy1 hy2 hy3
      go_enter Try.func9, Try.ntmps9
      go_wp2_with fail
      go_wp2
      go_ret
      exact ⟨ret_int (by (try have g1 := HX1.out); (try have g2 := HY1.out); rw [HE.out]; unfold cdB; (repeat' split) <;> omega), Own.base (by first | exact hO | (repeat (first | (with_reducible exact hO) | (with_reducible apply Own.alloc) | (with_reducible apply Own.drew) | ((with_reducible apply Own.set_at); (focus (show _ ≤ _; omega))))))⟩

set_option maxRecDepth 8000 in
set_option maxHeartbeats 4000000 in
theorem cdI_any (va : Value) (l : List Int) (w : World) (hs : SlAt w va l.length 1 (intC l)) (hn : l.length ≤ 1048576) :
    Calls Try.prog 10 #[va] w fun e w' => e = .returned (.int .i64 (cdZ l)) ∧ Below w.heap.size w w' := by
  have hO := Own.start w
  have hF := True.intro
  obtain ⟨A, c, rfl, nb, hA⟩ := hs.open
  have HA := hid hs
  clear hs
  by_cases h2 : l.length < 2
  · have h2' : (l.length : Int) < 2 := by omega
    have HE := hid (show cdZ l = 0 by unfold cdZ; rw [if_pos h2])
    clear h2
    go_enter Try.func10, Try.ntmps10
    go_wp2_with fail
    go_ret
    exact ⟨ret_int HE.out.symm, hO.base⟩
  · obtain ⟨p, hp⟩ : ∃ p, l.length = p + 2 := ⟨l.length - 2, by omega⟩
    obtain ⟨b, off, rfl, hc1, hc2, hb⟩ := hA (by omega)
    obtain ⟨x, hx⟩ : ∃ x, l[p]? = some x := ⟨_, List.getElem?_eq_getElem (by omega)⟩
    obtain ⟨y, hy⟩ : ∃ x, l[p + 1]? = some x := ⟨_, List.getElem?_eq_getElem (by omega)⟩
    have HE := hid (cd_last hp hx hy)
    have HX := hid (And.intro hx hy)
    have d0 := inAt HA.out hx
    have g0 := inAt HA.out hy
    rw [hp] at HA hc1 hn nb ⊢
    have p0 : (0 : Int) ≤ (p : Int) := by omega
    have p1 : (p : Int) < (p : Int) + 2 := by omega
    have p2 : (0 : Int) ≤ (p : Int) + 1 := by omega
    have p3 : (p : Int) + 1 < (p : Int) + 2 := by omega
    have p4 : ¬ (p : Int) + 2 < 2 := by omega
    have w0 : IntKind.i64.wrap ((p : Int) + 2 - 2) = (p : Int) := by rw [show (p : Int) + 2 - 2 = (p : Int) by omega]; exact IntWalk.i64_in _ (by omega)
    have w1 : IntKind.i64.wrap (p : Int) = (p : Int) := IntWalk.i64_in _ (by omega)
    have w2 : IntKind.i64.wrap ((p : Int) + 2 - 1) = (p : Int) + 1 := by rw [show (p : Int) + 2 - 1 = (p : Int) + 1 by omega]; exact IntWalk.i64_in _ (by omega)
    have w3 : IntKind.i64.wrap ((p : Int) + 1) = (p : Int) + 1 := IntWalk.i64_in _ (by omega)
    clear hp h2 hA hx hy hn
    rcases a_cases x with rfl | rfl | ⟨hx1, hx2⟩ <;> rcases b_cases y with rfl | rfl | rfl | ⟨hy1, hy2, hy3⟩
    all_goals
      try have x1 := beqF hx1
      try have x2 := beqF hx2
      try have x3 : (x != 4) = true := by simp [hx1]
      try have HX1 := hid (And.intro hx1 hx2)
      try clear hx1 hx2
      try have y1 := beqF hy1
      try have y2 := beqF hy2
      try have y3 := beqF hy3
      try have HY1 := hid (And.intro hy1 (And.intro hy2 hy3))
      try clear hy1 hy2 hy3
      go_enter Try.func10, Try.ntmps10
      go_wp2_with fail
      apply own_code hO
      (repeat (first | (with_reducible exact hO) | (with_reducible apply Own.alloc) | (with_reducible apply Own.drew) | ((with_reducible apply Own.set_at); (focus (show _ ≤ _; omega)))))
      have hG := hF; clear hF; clear hO; intro hO
      (try simp only [World.size_alloc1, World.size_drew, Nat.reduceAdd] at hO); (try simp only [upd, updI, List.map_cons, List.map_nil, eq_self, if_true, if_false, reduceIte, Nat.add_eq_left, Nat.left_eq_add, Nat.reduceEqDiff, List.set_cons_zero, List.set_cons_succ, hG] at hO); clear hG
      refine region_own (X := fun _ => True) [] (by kernel_rfl) (hO) (trivial) (by first | exact XStab.true | exact XStab.rd | exact XStab.rdIf) ?_
      clear hO
      refine Sim.takeP (i := 0) (d := some 10) (v := ?_) rfl rfl (by kernel_rfl) (by kernel_rfl) (by kernel_rfl) (fun _ _ _ h => h) (by first | exact XStab.true | exact XStab.rd | exact XStab.rdIf) ?_ ?_
      rotate_left
      · first | refine Or.inl ⟨by rfl, fun w => ?_⟩ | (refine Or.inr ⟨by rfl, ?_⟩; with_reducible rfl)
        first | done | (go_simp; all_goals with_reducible rfl)
      try simp only [Act.put, List.setIfInBounds_toArray, List.set_cons_zero, List.set_cons_succ]
      refine Sim.takeP (i := 1) (d := some 11) (v := ?_) rfl rfl (by kernel_rfl) (by kernel_rfl) (by kernel_rfl) (fun _ _ _ h => h) (by first | exact XStab.true | exact XStab.rd | exact XStab.rdIf) ?_ ?_
      rotate_left
      · first | refine Or.inl ⟨by rfl, fun w => ?_⟩ | (refine Or.inr ⟨by rfl, ?_⟩; with_reducible rfl)
        first | done | (go_simp; all_goals with_reducible rfl)
      try simp only [Act.put, List.setIfInBounds_toArray, List.set_cons_zero, List.set_cons_succ]
      refine Sim.takeP (i := 2) (d := some 12) (v := ?_) rfl rfl (by kernel_rfl) (by kernel_rfl) (by kernel_rfl) (fun _ _ _ h => h) (by first | exact XStab.true | exact XStab.rd | exact XStab.rdIf) ?_ ?_
      rotate_left
      · first | refine Or.inl ⟨by rfl, fun w => ?_⟩ | (refine Or.inr ⟨by rfl, ?_⟩; with_reducible rfl)
        first | done | (go_simp; all_goals with_reducible rfl)
      try simp only [Act.put, List.setIfInBounds_toArray, List.set_cons_zero, List.set_cons_succ]
      refine Sim.takeP (i := 3) (d := some 13) (v := ?_) rfl rfl (by kernel_rfl) (by kernel_rfl) (by kernel_rfl) (fun _ _ _ h => h) (by first | exact XStab.true | exact XStab.rd | exact XStab.rdIf) ?_ ?_
      rotate_left
      · first | refine Or.inl ⟨by rfl, fun w => ?_⟩ | (refine Or.inr ⟨by rfl, ?_⟩; with_reducible rfl)
        first | done | (go_simp; all_goals with_reducible rfl)
      try simp only [Act.put, List.setIfInBounds_toArray, List.set_cons_zero, List.set_cons_succ]
      refine Sim.take (i := 4) (d := some 14) (v := ?_) rfl rfl (by kernel_rfl) (by kernel_rfl) (by kernel_rfl) (by kernel_rfl) (fun _ _ _ h => h) (by first | exact XStab.true | exact XStab.rd | exact XStab.rdIf) ?_ ?_
      rotate_left
      · first | refine Or.inl ⟨by rfl, fun w hO => ?_⟩ | (refine Or.inr ⟨by rfl, ?_⟩; with_reducible rfl)
        first | done | (have hF := hO; (try simp only [Own, Item.Holds, apartI, CellsAt, Nat.reduceAdd, Nat.zero_add, List.mem_cons, List.not_mem_nil, or_false, forall_eq_or_imp, forall_eq, ne_eq, false_imp_iff, implies_true, and_true] at hF); ((have d0 := inAt (HA.out.below hO.base) HX.out.1; have g0 := inAt (HA.out.below hO.base) HX.out.2)); refine Out.same ?_; go_simp; all_goals with_reducible rfl)
      try simp only [Act.put, List.setIfInBounds_toArray, List.set_cons_zero, List.set_cons_succ]
      refine Sim.takeP (i := 5) (d := some 15) (v := ?_) rfl rfl (by kernel_rfl) (by kernel_rfl) (by kernel_rfl) (fun _ _ _ h => h) (by first | exact XStab.true | exact XStab.rd | exact XStab.rdIf) ?_ ?_
      rotate_left
      · first | refine Or.inl ⟨by rfl, fun w => ?_⟩ | (refine Or.inr ⟨by rfl, ?_⟩; with_reducible rfl)
        first | done | (go_simp; all_goals with_reducible rfl)
      try simp only [Act.put, List.setIfInBounds_toArray, List.set_cons_zero, List.set_cons_succ]
      refine Sim.takeP (i := 6) (d := some 16) (v := ?_) rfl rfl (by kernel_rfl) (by kernel_rfl) (by kernel_rfl) (fun _ _ _ h => h) (by first | exact XStab.true | exact XStab.rd | exact XStab.rdIf) ?_ ?_
      rotate_left
      · first | refine Or.inl ⟨by rfl, fun w => ?_⟩ | (refine Or.inr ⟨by rfl, ?_⟩; with_reducible rfl)
        first | done | (go_simp; all_goals with_reducible rfl)
      try simp only [Act.put, List.setIfInBounds_toArray, List.set_cons_zero, List.set_cons_succ]
      refine Sim.takeP (i := 7) (d := some 17) (v := ?_) rfl rfl (by kernel_rfl) (by kernel_rfl) (by kernel_rfl) (fun _ _ _ h => h) (by first | exact XStab.true | exact XStab.rd | exact XStab.rdIf) ?_ ?_
      rotate_left
      · first | refine Or.inl ⟨by rfl, fun w => ?_⟩ | (refine Or.inr ⟨by rfl, ?_⟩; with_reducible rfl)
        first | done | (go_simp; all_goals with_reducible rfl)
      try simp only [Act.put, List.setIfInBounds_toArray, List.set_cons_zero, List.set_cons_succ]
      refine Sim.takeP (i := 8) (d := some 18) (v := ?_) rfl rfl (by kernel_rfl) (by kernel_rfl) (by kernel_rfl) (fun _ _ _ h => h) (by first | exact XStab.true | exact XStab.rd | exact XStab.rdIf) ?_ ?_
      rotate_left
      · first | refine Or.inl ⟨by rfl, fun w => ?_⟩ | (refine Or.inr ⟨by rfl, ?_⟩; with_reducible rfl)
        first | done | (go_simp; all_goals with_reducible rfl)
      try simp only [Act.put, List.setIfInBounds_toArray, List.set_cons_zero, List.set_cons_succ]
      refine Sim.take (i := 9) (d := some 19) (v := ?_) rfl rfl (by kernel_rfl) (by kernel_rfl) (by kernel_rfl) (by kernel_rfl) (fun _ _ _ h => h) (by first | exact XStab.true | exact XStab.rd | exact XStab.rdIf) ?_ ?_
      rotate_left
      · first | refine Or.inl ⟨by rfl, fun w hO => ?_⟩ | (refine Or.inr ⟨by rfl, ?_⟩; with_reducible rfl)
        first | done | (have hF := hO; (try simp only [Own, Item.Holds, apartI, CellsAt, Nat.reduceAdd, Nat.zero_add, List.mem_cons, List.not_mem_nil, or_false, forall_eq_or_imp, forall_eq, ne_eq, false_imp_iff, implies_true, and_true] at hF); ((have d0 := inAt (HA.out.below hO.base) HX.out.1; have g0 := inAt (HA.out.below hO.base) HX.out.2)); refine Out.same ?_; go_simp; all_goals with_reducible rfl)
      try simp only [Act.put, List.setIfInBounds_toArray, List.set_cons_zero, List.set_cons_succ]
      refine Sim.takeP (i := 10) (d := some 4) (v := ?_) rfl rfl (by kernel_rfl) (by kernel_rfl) (by kernel_rfl) (fun _ _ _ h => h) (by first | exact XStab.true | exact XStab.rd | exact XStab.rdIf) ?_ ?_
      rotate_left
      · first | refine Or.inl ⟨by rfl, fun w => ?_⟩ | (refine Or.inr ⟨by rfl, ?_⟩; with_reducible rfl)
        first | done | (go_simp; all_goals with_reducible rfl)
      try simp only [Act.put, List.setIfInBounds_toArray, List.set_cons_zero, List.set_cons_succ]
      refine Sim.takeP (i := 11) (d := some 5) (v := ?_) rfl rfl (by kernel_rfl) (by kernel_rfl) (by kernel_rfl) (fun _ _ _ h => h) (by first | exact XStab.true | exact XStab.rd | exact XStab.rdIf) ?_ ?_
      rotate_left
      · first | refine Or.inl ⟨by rfl, fun w => ?_⟩ | (refine Or.inr ⟨by rfl, ?_⟩; with_reducible rfl)
        first | done | (go_simp; all_goals with_reducible rfl)
      try simp only [Act.put, List.setIfInBounds_toArray, List.set_cons_zero, List.set_cons_succ]
      refine Sim.done (by kernel_rfl) (fun w1 hO hX => ?_) _
      (try simp only [World.size_alloc1, World.size_drew, Nat.reduceAdd] at hO); (try simp only [upd, updI, List.map_cons, List.map_nil, eq_self, if_true, if_false, reduceIte, Nat.add_eq_left, Nat.left_eq_add, Nat.reduceEqDiff, List.set_cons_zero, List.set_cons_succ] at hO)
      have hF := hO; (try simp only [Own, Item.Holds, apartI, CellsAt, Nat.reduceAdd, Nat.zero_add, List.mem_cons, List.not_mem_nil, or_false, forall_eq_or_imp, forall_eq, ne_eq, false_imp_iff, implies_true, and_true] at hF)
      go_wp2
      go_ret
      exact ⟨ret_int (by (try have g1 := HX1.out); (try have g2 := HY1.out); rw [HE.out]; unfold cdB; (repeat' split) <;> omega), Own.base (by first | exact hO | (repeat (first | (with_reducible exact hO) | (with_reducible apply Own.alloc) | (with_reducible apply Own.drew) | ((with_reducible apply Own.set_at); (focus (show _ ≤ _; omega))))))⟩

/- The program's progressions. -/
theorem deI_any (d : Int) (w : World) :
    Calls Try.prog 14 #[.int .i64 d] w fun e w' => e = .returned (.bool (inB d 0 6)) ∧ w = w' := by
  by_cases h1 : 0 ≤ d
  · by_cases h2 : d < 7
    · have HE := hid (show inB d 0 6 = true from inB_iff.2 ⟨h1, by omega⟩)
      go_enter Try.func14, Try.ntmps14
      go_wp2
      go_ret
      exact ⟨ret_bool HE.out.symm, rfl⟩
    · have HE := hid (show inB d 0 6 = false by rw [← Bool.not_eq_true, inB_iff]; omega)
      go_enter Try.func14, Try.ntmps14
      go_wp2
      go_ret
      exact ⟨ret_bool HE.out.symm, rfl⟩
  · have HE := hid (show inB d 0 6 = false by rw [← Bool.not_eq_true, inB_iff]; omega)
    go_enter Try.func14, Try.ntmps14
    go_wp2
    go_ret
    exact ⟨ret_bool HE.out.symm, rfl⟩
theorem deI_is {d : Int} {b : Bool} (h : inB d 0 6 = b) (w : World) : Calls Try.prog 14 #[.int .i64 d] w fun e w' => e = .returned (.bool b) ∧ Below w.heap.size w w' := by
  subst h; exact inBel (deI_any d w)

set_option maxHeartbeats 1000000 in
theorem mfI_any (a b : Int) (w : World) :
    Calls Try.prog 13 #[.int .i64 a, .int .i64 b] w fun e w' => e = .returned (.bool (badB a b)) ∧ w = w' := by
  rcases four_six a with rfl | rfl | ⟨ha1, ha2⟩
  case inr.inr =>
    have HE := hid (badB_no1 (b := b) ha1 ha2)
    have x1 := beqF ha1
    have x2 := beqF ha2
    go_enter Try.func13, Try.ntmps13
    go_wp2
    go_ret
    exact ⟨ret_bool HE.out.symm, rfl⟩
  all_goals
    rcases one_three b with rfl | rfl | ⟨hb1, hb2⟩
    case inr.inr =>
      have HE := hid (badB_no2 (a := 4) hb1 hb2)
      have HE2 := hid (badB_no2 (a := 6) hb1 hb2)
      have x1 := beqF hb1
      have x2 := beqF hb2
      go_enter Try.func13, Try.ntmps13
      go_wp2
      go_ret
      first | exact ⟨ret_bool HE.out.symm, rfl⟩ | exact ⟨ret_bool HE2.out.symm, rfl⟩
    all_goals
      go_enter Try.func13, Try.ntmps13
      go_wp2
      go_ret
      exact ⟨rfl, rfl⟩
theorem mfI_is {a b : Int} {v : Bool} (h : badB a b = v) (w : World) : Calls Try.prog 13 #[.int .i64 a, .int .i64 b] w fun e w' => e = .returned (.bool v) ∧ Below w.heap.size w w' := by
  subst h; exact inBel (mfI_any a b w)

set_option maxRecDepth 8000 in
set_option maxHeartbeats 4000000 in
theorem dvI_any (va : Value) (l : List Int) (w : World) (hs : SlAt w va l.length 1 (intC l)) (hn : l.length ≤ 1048576) :
    Calls Try.prog 12 #[va] w fun e w' => e = .returned (.bool (l.all fun d => inB d 0 6)) ∧ Below w.heap.size w w' := by
  have hO := Own.start w
  have hF := True.intro
  obtain ⟨A, c, rfl, nb, hA⟩ := hs.open
  have HA := hid hs
  clear hs
  obtain ⟨n, hnl⟩ : ∃ n, l.length = n := ⟨_, rfl⟩
  have HN := hid hnl
  rw [hnl] at hn nb hA HA ⊢
  clear hnl
  go_enter Try.func12, Try.ntmps12
  go_wp2_with fail
  (apply own_code hO; (repeat (first | (with_reducible exact hO) | (with_reducible apply Own.alloc) | (with_reducible apply Own.drew) | ((with_reducible apply Own.set_at); (focus (show _ ≤ _; omega))))); have hG := hF; clear hF; clear hO; intro hO; (try simp only [World.size_alloc1, World.size_drew, Nat.reduceAdd] at hO); (try simp only [upd, updI, List.map_cons, List.map_nil, eq_self, if_true, if_false, reduceIte, Nat.add_eq_left, Nat.left_eq_add, Nat.reduceEqDiff, List.set_cons_zero, List.set_cons_succ, hG] at hO); clear hG; have hF := hO; (try simp only [Own, Item.Holds, apartI, CellsAt, Nat.reduceAdd, Nat.zero_add, List.mem_cons, List.not_mem_nil, or_false, forall_eq_or_imp, forall_eq, ne_eq, false_imp_iff, implies_true, and_true] at hF))
  go_loopw [7] (fun t wr => ∃ k : Nat, k ≤ n ∧ t = .int .i64 k ∧ Hid (∀ (i : Nat) (x : Int), i < k → l[i]? = some x → inB x 0 6 = true) ∧ Own w.heap.size (Below w.heap.size w) wr []) (fun t _ => n - (intOf t).toNat)
  case atStart => exact ⟨0, by omega, rfl, fun i x h => by omega, hO⟩
  case round =>
    clear hO hF
    obtain ⟨k, hk, rfl, hv, hO⟩ := hrel
    have hF := hO; (try simp only [Own, Item.Holds, apartI, CellsAt, Nat.reduceAdd, Nat.zero_add, List.mem_cons, List.not_mem_nil, or_false, forall_eq_or_imp, forall_eq, ne_eq, false_imp_iff, implies_true, and_true] at hF)
    by_cases he : k = n
    · subst he
      have HV := hid (show (l.all fun d => inB d 0 6) = true from all_ixN HN.out hv.out)
      go_wp2_with fail
      go_ret
      exact ⟨ret_bool HV.out.symm, hO.base⟩
    · have hkl : k < n := by omega
      have hkl2 : (k : Int) < n := by omega
      obtain ⟨b, off, rfl, hc1, hc2, hb⟩ := hA (by omega)
      obtain ⟨x, hx⟩ : ∃ x, l[k]? = some x := ⟨_, List.getElem?_eq_getElem (by have := HN.out; omega)⟩
      have d0 := inAt (HA.out.below hO.base) hx
      cases hd : inB x 0 6
      · have HU := hid (show (l.all fun d => inB d 0 6) = false by
          rw [← Bool.not_eq_true, List.all_eq_true]
          intro h
          have := h x (List.mem_of_getElem? hx)
          rw [hd] at this
          cases this)
        have HI := hid (fun W => deI_is hd W)
        clear he hx hd
        go_wp2_with (go_at_call 14; apply own_at hO; (repeat (first | (with_reducible exact hO) | (with_reducible apply Own.alloc) | (with_reducible apply Own.drew) | ((with_reducible apply Own.set_at); (focus (show _ ≤ _; omega))))); have hG := hF; clear hF; clear hO; intro hO; refine own_call hO (fun hB => HI.out _) ?_; clear hO; intro w1 hO; (try simp only [World.size_alloc1, World.size_drew, Nat.reduceAdd] at hO); (try simp only [upd, updI, List.map_cons, List.map_nil, eq_self, if_true, if_false, reduceIte, Nat.add_eq_left, Nat.left_eq_add, Nat.reduceEqDiff, List.set_cons_zero, List.set_cons_succ, hG] at hO); clear hG; have hF := hO; (try simp only [Own, Item.Holds, apartI, CellsAt, Nat.reduceAdd, Nat.zero_add, List.mem_cons, List.not_mem_nil, or_false, forall_eq_or_imp, forall_eq, ne_eq, false_imp_iff, implies_true, and_true] at hF))
        go_ret
        exact ⟨ret_bool HU.out.symm, Own.base (by (repeat (first | (with_reducible exact hO) | (with_reducible apply Own.alloc) | (with_reducible apply Own.drew) | ((with_reducible apply Own.set_at); (focus (show _ ≤ _; omega))))))⟩
      · have HU := hid (upto_N hv.out hx hd)
        have HI := hid (fun W => deI_is hd W)
        clear he hx hd
        go_wp2_with (go_at_call 14; apply own_at hO; (repeat (first | (with_reducible exact hO) | (with_reducible apply Own.alloc) | (with_reducible apply Own.drew) | ((with_reducible apply Own.set_at); (focus (show _ ≤ _; omega))))); have hG := hF; clear hF; clear hO; intro hO; refine own_call hO (fun hB => HI.out _) ?_; clear hO; intro w1 hO; (try simp only [World.size_alloc1, World.size_drew, Nat.reduceAdd] at hO); (try simp only [upd, updI, List.map_cons, List.map_nil, eq_self, if_true, if_false, reduceIte, Nat.add_eq_left, Nat.left_eq_add, Nat.reduceEqDiff, List.set_cons_zero, List.set_cons_succ, hG] at hO); clear hG; have hF := hO; (try simp only [Own, Item.Holds, apartI, CellsAt, Nat.reduceAdd, Nat.zero_add, List.mem_cons, List.not_mem_nil, or_false, forall_eq_or_imp, forall_eq, ne_eq, false_imp_iff, implies_true, and_true] at hF))
        go_roundw
        case rel => exact ⟨k + 1, by omega, by go_num, HU.out, hO⟩
        case measure => simp [intOf]; omega

theorem pf_no {l : List Int} (h : (l.all fun d => inB d 0 6) = false) : pfZ l = -1 := by unfold pfZ; rw [h]; rfl
set_option maxRecDepth 8000 in
set_option maxHeartbeats 4000000 in
theorem pfI_any (va : Value) (l : List Int) (w : World) (hs : SlAt w va l.length 1 (intC l)) (hn : l.length ≤ 1048576) :
    Calls Try.prog 7 #[va] w fun e w' => e = .returned (.int .i64 (pfZ l)) ∧ Below w.heap.size w w' := by
  have hO := Own.start w
  have hF := True.intro
  have HDV := hid (fun W (hW : Below w.heap.size w W) => dvI_any va l W (hs.below hW) hn)
  obtain ⟨A, c, rfl, nb, hA⟩ := hs.open
  have HA := hid hs
  clear hs
  obtain ⟨n, hnl⟩ : ∃ n, l.length = n := ⟨_, rfl⟩
  have HN := hid hnl
  rw [hnl] at hn nb hA HA HDV ⊢
  clear hnl
  cases hall : l.all fun d => inB d 0 6
  · rw [hall] at HDV
    have HU := hid (pf_no hall)
    clear hall
    go_enter Try.func7, Try.ntmps7
    go_wp2_with (go_at_call 12; apply own_at hO; (repeat (first | (with_reducible exact hO) | (with_reducible apply Own.alloc) | (with_reducible apply Own.drew) | ((with_reducible apply Own.set_at); (focus (show _ ≤ _; omega))))); have hG := hF; clear hF; clear hO; intro hO; refine own_call hO (fun hB => HDV.out _ hB) ?_; clear hO; intro w1 hO; (try simp only [World.size_alloc1, World.size_drew, Nat.reduceAdd] at hO); (try simp only [upd, updI, List.map_cons, List.map_nil, eq_self, if_true, if_false, reduceIte, Nat.add_eq_left, Nat.left_eq_add, Nat.reduceEqDiff, List.set_cons_zero, List.set_cons_succ, hG] at hO); clear hG; have hF := hO; (try simp only [Own, Item.Holds, apartI, CellsAt, Nat.reduceAdd, Nat.zero_add, List.mem_cons, List.not_mem_nil, or_false, forall_eq_or_imp, forall_eq, ne_eq, false_imp_iff, implies_true, and_true] at hF))
    go_ret
    exact ⟨ret_int HU.out.symm, Own.base (by (repeat (first | (with_reducible exact hO) | (with_reducible apply Own.alloc) | (with_reducible apply Own.drew) | ((with_reducible apply Own.set_at); (focus (show _ ≤ _; omega))))))⟩
  · rw [hall] at HDV
    have HZ := hid (show pfZ l = pfF (0 + 1) (l.drop 0) from pf_start hall)
    clear hall
    go_enter Try.func7, Try.ntmps7
    go_wp2_with (go_at_call 12; apply own_at hO; (repeat (first | (with_reducible exact hO) | (with_reducible apply Own.alloc) | (with_reducible apply Own.drew) | ((with_reducible apply Own.set_at); (focus (show _ ≤ _; omega))))); have hG := hF; clear hF; clear hO; intro hO; refine own_call hO (fun hB => HDV.out _ hB) ?_; clear hO; intro w1 hO; (try simp only [World.size_alloc1, World.size_drew, Nat.reduceAdd] at hO); (try simp only [upd, updI, List.map_cons, List.map_nil, eq_self, if_true, if_false, reduceIte, Nat.add_eq_left, Nat.left_eq_add, Nat.reduceEqDiff, List.set_cons_zero, List.set_cons_succ, hG] at hO); clear hG; have hF := hO; (try simp only [Own, Item.Holds, apartI, CellsAt, Nat.reduceAdd, Nat.zero_add, List.mem_cons, List.not_mem_nil, or_false, forall_eq_or_imp, forall_eq, ne_eq, false_imp_iff, implies_true, and_true] at hF))
    go_loopw [3] (fun t wr => ∃ i : Nat, t = .int .i64 ((i : Int) + 1) ∧ (i : Int) ≤ 1048576 ∧ Hid (pfZ l = pfF (i + 1) (l.drop i)) ∧ Own w.heap.size (Below w.heap.size w) wr []) (fun t _ => n + 1 - (intOf t).toNat)
    case atStart => exact ⟨0, rfl, by omega, HZ, hO⟩
    case round =>
      clear hO hF
      obtain ⟨i, rfl, hi9, HP, hO⟩ := hrel
      have hF := hO; (try simp only [Own, Item.Holds, apartI, CellsAt, Nat.reduceAdd, Nat.zero_add, List.mem_cons, List.not_mem_nil, or_false, forall_eq_or_imp, forall_eq, ne_eq, false_imp_iff, implies_true, and_true] at hF)
      by_cases he : i + 1 < n
      · have h1 : (i : Int) + 1 < (n : Int) := by omega
        have h2 : (i : Int) < (n : Int) := by omega
        have h3 : (0 : Int) ≤ (i : Int) := by omega
        have h4 : (0 : Int) ≤ (i : Int) + 1 := by omega
        have wi : IntKind.i64.wrap ((i : Int) + 1 - 1) = (i : Int) := by rw [show (i : Int) + 1 - 1 = (i : Int) by omega]; exact IntWalk.i64_in _ (by omega)
        have wi2 : IntKind.i64.wrap (i : Int) = (i : Int) := IntWalk.i64_in _ (by omega)
        have wj : IntKind.i64.wrap ((i : Int) + 1 + 1) = (i : Int) + 1 + 1 := IntWalk.i64_in _ (by omega)
        obtain ⟨b, off, rfl, hc1, hc2, hb⟩ := hA (by omega)
        obtain ⟨x, hx⟩ : ∃ x, l[i]? = some x := ⟨_, List.getElem?_eq_getElem (by have := HN.out; omega)⟩
        obtain ⟨y, hy⟩ : ∃ x, l[i + 1]? = some x := ⟨_, List.getElem?_eq_getElem (by have := HN.out; omega)⟩
        have HX := hid (And.intro hx hy)
        have HS := hid (HP.out.trans (pf_step hx hy))
        obtain ⟨v, hv⟩ : ∃ v, badB x y = v := ⟨_, rfl⟩
        have HM := hid (fun W => mfI_is hv W)
        rw [hv] at HS
        clear he hx hy hv
        cases v
        · have HU := hid (HS.out.trans (if_neg Bool.false_ne_true))
          clear HS
          go_wp2_with fail
          apply own_code hO
          (repeat (first | (with_reducible exact hO) | (with_reducible apply Own.alloc) | (with_reducible apply Own.drew) | ((with_reducible apply Own.set_at); (focus (show _ ≤ _; omega)))))
          have hG := hF; clear hF; clear hO; intro hO
          (try simp only [World.size_alloc1, World.size_drew, Nat.reduceAdd] at hO); (try simp only [upd, updI, List.map_cons, List.map_nil, eq_self, if_true, if_false, reduceIte, Nat.add_eq_left, Nat.left_eq_add, Nat.reduceEqDiff, List.set_cons_zero, List.set_cons_succ, hG] at hO); clear hG
          refine region_own (X := fun _ => True) [] (by kernel_rfl) (hO) (trivial) (by first | exact XStab.true | exact XStab.rd | exact XStab.rdIf) ?_
          clear hO
          refine Sim.takeP (i := 0) (d := some 13) (v := ?_) rfl rfl (by kernel_rfl) (by kernel_rfl) (by kernel_rfl) (fun _ _ _ h => h) (by first | exact XStab.true | exact XStab.rd | exact XStab.rdIf) ?_ ?_
          rotate_left
          · first | refine Or.inl ⟨by rfl, fun w => ?_⟩ | (refine Or.inr ⟨by rfl, ?_⟩; with_reducible rfl)
            first | done | (go_simp; all_goals with_reducible rfl)
          try simp only [Act.put, List.setIfInBounds_toArray, List.set_cons_zero, List.set_cons_succ]
          refine Sim.takeP (i := 1) (d := some 14) (v := ?_) rfl rfl (by kernel_rfl) (by kernel_rfl) (by kernel_rfl) (fun _ _ _ h => h) (by first | exact XStab.true | exact XStab.rd | exact XStab.rdIf) ?_ ?_
          rotate_left
          · first | refine Or.inl ⟨by rfl, fun w => ?_⟩ | (refine Or.inr ⟨by rfl, ?_⟩; with_reducible rfl)
            first | done | (go_simp; all_goals with_reducible rfl)
          try simp only [Act.put, List.setIfInBounds_toArray, List.set_cons_zero, List.set_cons_succ]
          refine Sim.takeP (i := 2) (d := some 15) (v := ?_) rfl rfl (by kernel_rfl) (by kernel_rfl) (by kernel_rfl) (fun _ _ _ h => h) (by first | exact XStab.true | exact XStab.rd | exact XStab.rdIf) ?_ ?_
          rotate_left
          · first | refine Or.inl ⟨by rfl, fun w => ?_⟩ | (refine Or.inr ⟨by rfl, ?_⟩; with_reducible rfl)
            first | done | (go_simp; all_goals with_reducible rfl)
          try simp only [Act.put, List.setIfInBounds_toArray, List.set_cons_zero, List.set_cons_succ]
          refine Sim.takeP (i := 3) (d := some 16) (v := ?_) rfl rfl (by kernel_rfl) (by kernel_rfl) (by kernel_rfl) (fun _ _ _ h => h) (by first | exact XStab.true | exact XStab.rd | exact XStab.rdIf) ?_ ?_
          rotate_left
          · first | refine Or.inl ⟨by rfl, fun w => ?_⟩ | (refine Or.inr ⟨by rfl, ?_⟩; with_reducible rfl)
            first | done | (go_simp; all_goals with_reducible rfl)
          try simp only [Act.put, List.setIfInBounds_toArray, List.set_cons_zero, List.set_cons_succ]
          refine Sim.take (i := 4) (d := some 17) (v := ?_) rfl rfl (by kernel_rfl) (by kernel_rfl) (by kernel_rfl) (by kernel_rfl) (fun _ _ _ h => h) (by first | exact XStab.true | exact XStab.rd | exact XStab.rdIf) ?_ ?_
          rotate_left
          · first | refine Or.inl ⟨by rfl, fun w hO => ?_⟩ | (refine Or.inr ⟨by rfl, ?_⟩; with_reducible rfl)
            first | done | (have hF := hO; (try simp only [Own, Item.Holds, apartI, CellsAt, Nat.reduceAdd, Nat.zero_add, List.mem_cons, List.not_mem_nil, or_false, forall_eq_or_imp, forall_eq, ne_eq, false_imp_iff, implies_true, and_true] at hF); ((have d0 := inAt (HA.out.below hO.base) HX.out.1; have g0 := inAt (HA.out.below hO.base) HX.out.2)); refine Out.same ?_; go_simp; all_goals with_reducible rfl)
          try simp only [Act.put, List.setIfInBounds_toArray, List.set_cons_zero, List.set_cons_succ]
          refine Sim.takeP (i := 5) (d := some 18) (v := ?_) rfl rfl (by kernel_rfl) (by kernel_rfl) (by kernel_rfl) (fun _ _ _ h => h) (by first | exact XStab.true | exact XStab.rd | exact XStab.rdIf) ?_ ?_
          rotate_left
          · first | refine Or.inl ⟨by rfl, fun w => ?_⟩ | (refine Or.inr ⟨by rfl, ?_⟩; with_reducible rfl)
            first | done | (go_simp; all_goals with_reducible rfl)
          try simp only [Act.put, List.setIfInBounds_toArray, List.set_cons_zero, List.set_cons_succ]
          refine Sim.takeP (i := 6) (d := some 19) (v := ?_) rfl rfl (by kernel_rfl) (by kernel_rfl) (by kernel_rfl) (fun _ _ _ h => h) (by first | exact XStab.true | exact XStab.rd | exact XStab.rdIf) ?_ ?_
          rotate_left
          · first | refine Or.inl ⟨by rfl, fun w => ?_⟩ | (refine Or.inr ⟨by rfl, ?_⟩; with_reducible rfl)
            first | done | (go_simp; all_goals with_reducible rfl)
          try simp only [Act.put, List.setIfInBounds_toArray, List.set_cons_zero, List.set_cons_succ]
          refine Sim.takeP (i := 7) (d := some 20) (v := ?_) rfl rfl (by kernel_rfl) (by kernel_rfl) (by kernel_rfl) (fun _ _ _ h => h) (by first | exact XStab.true | exact XStab.rd | exact XStab.rdIf) ?_ ?_
          rotate_left
          · first | refine Or.inl ⟨by rfl, fun w => ?_⟩ | (refine Or.inr ⟨by rfl, ?_⟩; with_reducible rfl)
            first | done | (go_simp; all_goals with_reducible rfl)
          try simp only [Act.put, List.setIfInBounds_toArray, List.set_cons_zero, List.set_cons_succ]
          refine Sim.take (i := 8) (d := some 21) (v := ?_) rfl rfl (by kernel_rfl) (by kernel_rfl) (by kernel_rfl) (by kernel_rfl) (fun _ _ _ h => h) (by first | exact XStab.true | exact XStab.rd | exact XStab.rdIf) ?_ ?_
          rotate_left
          · first | refine Or.inl ⟨by rfl, fun w hO => ?_⟩ | (refine Or.inr ⟨by rfl, ?_⟩; with_reducible rfl)
            first | done | (have hF := hO; (try simp only [Own, Item.Holds, apartI, CellsAt, Nat.reduceAdd, Nat.zero_add, List.mem_cons, List.not_mem_nil, or_false, forall_eq_or_imp, forall_eq, ne_eq, false_imp_iff, implies_true, and_true] at hF); ((have d0 := inAt (HA.out.below hO.base) HX.out.1; have g0 := inAt (HA.out.below hO.base) HX.out.2)); refine Out.same ?_; go_simp; all_goals with_reducible rfl)
          try simp only [Act.put, List.setIfInBounds_toArray, List.set_cons_zero, List.set_cons_succ]
          refine Sim.take (i := 9) (d := some 22) (v := ?_) rfl rfl (by kernel_rfl) (by kernel_rfl) (by kernel_rfl) (by kernel_rfl) (fun _ _ _ h => h) (by first | exact XStab.true | exact XStab.rd | exact XStab.rdIf) ?_ ?_
          rotate_left
          · first | refine Or.inl ⟨by rfl, fun w hO => ?_⟩ | (refine Or.inr ⟨by rfl, ?_⟩; with_reducible rfl)
            first | done | (refine Out.call (f := 13) (args := ?_) ?_ ?_; rotate_left; (focus (go_simp; all_goals with_reducible rfl)); exact HM.out _)
          try simp only [Act.put, List.setIfInBounds_toArray, List.set_cons_zero, List.set_cons_succ]
          refine Sim.done (by kernel_rfl) (fun w1 hO hX => ?_) _
          (try simp only [World.size_alloc1, World.size_drew, Nat.reduceAdd] at hO); (try simp only [upd, updI, List.map_cons, List.map_nil, eq_self, if_true, if_false, reduceIte, Nat.add_eq_left, Nat.left_eq_add, Nat.reduceEqDiff, List.set_cons_zero, List.set_cons_succ] at hO)
          have hF := hO; (try simp only [Own, Item.Holds, apartI, CellsAt, Nat.reduceAdd, Nat.zero_add, List.mem_cons, List.not_mem_nil, or_false, forall_eq_or_imp, forall_eq, ne_eq, false_imp_iff, implies_true, and_true] at hF)
          go_wp2
          go_roundw
          case rel => exact ⟨i + 1, by go_num, by omega, HU.out, hO⟩
          case measure => simp [intOf]; omega
        · have HU := hid (HS.out.trans (if_pos rfl))
          clear HS
          go_wp2_with fail
          apply own_code hO
          (repeat (first | (with_reducible exact hO) | (with_reducible apply Own.alloc) | (with_reducible apply Own.drew) | ((with_reducible apply Own.set_at); (focus (show _ ≤ _; omega)))))
          have hG := hF; clear hF; clear hO; intro hO
          (try simp only [World.size_alloc1, World.size_drew, Nat.reduceAdd] at hO); (try simp only [upd, updI, List.map_cons, List.map_nil, eq_self, if_true, if_false, reduceIte, Nat.add_eq_left, Nat.left_eq_add, Nat.reduceEqDiff, List.set_cons_zero, List.set_cons_succ, hG] at hO); clear hG
          refine region_own (X := fun _ => True) [] (by kernel_rfl) (hO) (trivial) (by first | exact XStab.true | exact XStab.rd | exact XStab.rdIf) ?_
          clear hO
          refine Sim.takeP (i := 0) (d := some 13) (v := ?_) rfl rfl (by kernel_rfl) (by kernel_rfl) (by kernel_rfl) (fun _ _ _ h => h) (by first | exact XStab.true | exact XStab.rd | exact XStab.rdIf) ?_ ?_
          rotate_left
          · first | refine Or.inl ⟨by rfl, fun w => ?_⟩ | (refine Or.inr ⟨by rfl, ?_⟩; with_reducible rfl)
            first | done | (go_simp; all_goals with_reducible rfl)
          try simp only [Act.put, List.setIfInBounds_toArray, List.set_cons_zero, List.set_cons_succ]
          refine Sim.takeP (i := 1) (d := some 14) (v := ?_) rfl rfl (by kernel_rfl) (by kernel_rfl) (by kernel_rfl) (fun _ _ _ h => h) (by first | exact XStab.true | exact XStab.rd | exact XStab.rdIf) ?_ ?_
          rotate_left
          · first | refine Or.inl ⟨by rfl, fun w => ?_⟩ | (refine Or.inr ⟨by rfl, ?_⟩; with_reducible rfl)
            first | done | (go_simp; all_goals with_reducible rfl)
          try simp only [Act.put, List.setIfInBounds_toArray, List.set_cons_zero, List.set_cons_succ]
          refine Sim.takeP (i := 2) (d := some 15) (v := ?_) rfl rfl (by kernel_rfl) (by kernel_rfl) (by kernel_rfl) (fun _ _ _ h => h) (by first | exact XStab.true | exact XStab.rd | exact XStab.rdIf) ?_ ?_
          rotate_left
          · first | refine Or.inl ⟨by rfl, fun w => ?_⟩ | (refine Or.inr ⟨by rfl, ?_⟩; with_reducible rfl)
            first | done | (go_simp; all_goals with_reducible rfl)
          try simp only [Act.put, List.setIfInBounds_toArray, List.set_cons_zero, List.set_cons_succ]
          refine Sim.takeP (i := 3) (d := some 16) (v := ?_) rfl rfl (by kernel_rfl) (by kernel_rfl) (by kernel_rfl) (fun _ _ _ h => h) (by first | exact XStab.true | exact XStab.rd | exact XStab.rdIf) ?_ ?_
          rotate_left
          · first | refine Or.inl ⟨by rfl, fun w => ?_⟩ | (refine Or.inr ⟨by rfl, ?_⟩; with_reducible rfl)
            first | done | (go_simp; all_goals with_reducible rfl)
          try simp only [Act.put, List.setIfInBounds_toArray, List.set_cons_zero, List.set_cons_succ]
          refine Sim.take (i := 4) (d := some 17) (v := ?_) rfl rfl (by kernel_rfl) (by kernel_rfl) (by kernel_rfl) (by kernel_rfl) (fun _ _ _ h => h) (by first | exact XStab.true | exact XStab.rd | exact XStab.rdIf) ?_ ?_
          rotate_left
          · first | refine Or.inl ⟨by rfl, fun w hO => ?_⟩ | (refine Or.inr ⟨by rfl, ?_⟩; with_reducible rfl)
            first | done | (have hF := hO; (try simp only [Own, Item.Holds, apartI, CellsAt, Nat.reduceAdd, Nat.zero_add, List.mem_cons, List.not_mem_nil, or_false, forall_eq_or_imp, forall_eq, ne_eq, false_imp_iff, implies_true, and_true] at hF); ((have d0 := inAt (HA.out.below hO.base) HX.out.1; have g0 := inAt (HA.out.below hO.base) HX.out.2)); refine Out.same ?_; go_simp; all_goals with_reducible rfl)
          try simp only [Act.put, List.setIfInBounds_toArray, List.set_cons_zero, List.set_cons_succ]
          refine Sim.takeP (i := 5) (d := some 18) (v := ?_) rfl rfl (by kernel_rfl) (by kernel_rfl) (by kernel_rfl) (fun _ _ _ h => h) (by first | exact XStab.true | exact XStab.rd | exact XStab.rdIf) ?_ ?_
          rotate_left
          · first | refine Or.inl ⟨by rfl, fun w => ?_⟩ | (refine Or.inr ⟨by rfl, ?_⟩; with_reducible rfl)
            first | done | (go_simp; all_goals with_reducible rfl)
          try simp only [Act.put, List.setIfInBounds_toArray, List.set_cons_zero, List.set_cons_succ]
          refine Sim.takeP (i := 6) (d := some 19) (v := ?_) rfl rfl (by kernel_rfl) (by kernel_rfl) (by kernel_rfl) (fun _ _ _ h => h) (by first | exact XStab.true | exact XStab.rd | exact XStab.rdIf) ?_ ?_
          rotate_left
          · first | refine Or.inl ⟨by rfl, fun w => ?_⟩ | (refine Or.inr ⟨by rfl, ?_⟩; with_reducible rfl)
            first | done | (go_simp; all_goals with_reducible rfl)
          try simp only [Act.put, List.setIfInBounds_toArray, List.set_cons_zero, List.set_cons_succ]
          refine Sim.takeP (i := 7) (d := some 20) (v := ?_) rfl rfl (by kernel_rfl) (by kernel_rfl) (by kernel_rfl) (fun _ _ _ h => h) (by first | exact XStab.true | exact XStab.rd | exact XStab.rdIf) ?_ ?_
          rotate_left
          · first | refine Or.inl ⟨by rfl, fun w => ?_⟩ | (refine Or.inr ⟨by rfl, ?_⟩; with_reducible rfl)
            first | done | (go_simp; all_goals with_reducible rfl)
          try simp only [Act.put, List.setIfInBounds_toArray, List.set_cons_zero, List.set_cons_succ]
          refine Sim.take (i := 8) (d := some 21) (v := ?_) rfl rfl (by kernel_rfl) (by kernel_rfl) (by kernel_rfl) (by kernel_rfl) (fun _ _ _ h => h) (by first | exact XStab.true | exact XStab.rd | exact XStab.rdIf) ?_ ?_
          rotate_left
          · first | refine Or.inl ⟨by rfl, fun w hO => ?_⟩ | (refine Or.inr ⟨by rfl, ?_⟩; with_reducible rfl)
            first | done | (have hF := hO; (try simp only [Own, Item.Holds, apartI, CellsAt, Nat.reduceAdd, Nat.zero_add, List.mem_cons, List.not_mem_nil, or_false, forall_eq_or_imp, forall_eq, ne_eq, false_imp_iff, implies_true, and_true] at hF); ((have d0 := inAt (HA.out.below hO.base) HX.out.1; have g0 := inAt (HA.out.below hO.base) HX.out.2)); refine Out.same ?_; go_simp; all_goals with_reducible rfl)
          try simp only [Act.put, List.setIfInBounds_toArray, List.set_cons_zero, List.set_cons_succ]
          refine Sim.take (i := 9) (d := some 22) (v := ?_) rfl rfl (by kernel_rfl) (by kernel_rfl) (by kernel_rfl) (by kernel_rfl) (fun _ _ _ h => h) (by first | exact XStab.true | exact XStab.rd | exact XStab.rdIf) ?_ ?_
          rotate_left
          · first | refine Or.inl ⟨by rfl, fun w hO => ?_⟩ | (refine Or.inr ⟨by rfl, ?_⟩; with_reducible rfl)
            first | done | (refine Out.call (f := 13) (args := ?_) ?_ ?_; rotate_left; (focus (go_simp; all_goals with_reducible rfl)); exact HM.out _)
          try simp only [Act.put, List.setIfInBounds_toArray, List.set_cons_zero, List.set_cons_succ]
          refine Sim.done (by kernel_rfl) (fun w1 hO hX => ?_) _
          (try simp only [World.size_alloc1, World.size_drew, Nat.reduceAdd] at hO); (try simp only [upd, updI, List.map_cons, List.map_nil, eq_self, if_true, if_false, reduceIte, Nat.add_eq_left, Nat.left_eq_add, Nat.reduceEqDiff, List.set_cons_zero, List.set_cons_succ] at hO)
          have hF := hO; (try simp only [Own, Item.Holds, apartI, CellsAt, Nat.reduceAdd, Nat.zero_add, List.mem_cons, List.not_mem_nil, or_false, forall_eq_or_imp, forall_eq, ne_eq, false_imp_iff, implies_true, and_true] at hF)
          go_wp2
          go_ret
          exact ⟨ret_int (by rw [HU.out]; push_cast; rfl), hO.base⟩
      · have h1 : ¬ ((i : Int) + 1 < (n : Int)) := by omega
        have HU := hid (HP.out.trans (pf_end (by have := HN.out; omega)))
        clear he
        go_wp2_with fail
        go_ret
        exact ⟨ret_int HU.out.symm, hO.base⟩

/- What they answer, as contracts. -/
def CZ1 (z : List Int → Int) (g : FuncId) (w : World) : Prop := ∀ (va : Value) (l : List Int) (W : World), Below w.heap.size w W → SlAt W va l.length 1 (intC l) → l.length ≤ 1048576 →
  Calls Try.prog g #[va] W fun e w' => e = .returned (.int .i64 (z l)) ∧ Below W.heap.size W w'
theorem CZ1.to {z : List Int → Int} {g : FuncId} {w wd : World} (h : CZ1 z g w) (hb : Below w.heap.size w wd) : CZ1 z g wd := fun va l W hW => h va l W (btr hb hW)
theorem CZ1.is {z : List Int → Int} {g : FuncId} {w : World} (h : CZ1 z g w) {l : List Int} {n : Nat} {y : Int} (hm : l.length = n) (hn : n ≤ 1048576) (hz : z l = y) (va : Value) (W : World) (hW : Below w.heap.size w W) (hs : SlAt W va n 1 (intC l)) :
    Calls Try.prog g #[va] W fun e w' => e = .returned (.int .i64 y) ∧ Below W.heap.size W w' := by
  subst hm hz; exact h va l W hW hs hn

theorem pfS_C (w : World) : CZ1 pfZ 5 w := fun va l W _ hs hn => pfS_any va l W hs hn

theorem cdS_C (w : World) : CZ1 cdZ 9 w := fun va l W _ hs hn => cdS_any va l W hs hn
end Go.Proofs.Ytjfmbklgkmkgjaa
