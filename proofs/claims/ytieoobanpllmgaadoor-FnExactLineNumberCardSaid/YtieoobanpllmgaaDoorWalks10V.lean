/- Chapter 10 in the program: a list of pitches is valid. -/
import Derived.Test.YtieoobanpllmgaaDoorWalksPt
import Derived.Test.YtieoobanpllmgaaDoorWalks1
import Derived.WalkLawsBesides
import Derived.Lib.SmallJoins
namespace Go.Proofs.YtieoobanpllmgaaDoor
set_option linter.unusedSimpArgs false
set_option linter.unusedVariables false
set_option maxRecDepth 8000
open Go.RowKit Go.Joins

theorem pvI_at {x : Pt} {b : Bool} (h : pvP x = b) (W : World) :
    Calls Tryd.prog 61 #[.agg #[.int .i64 x.s, .int .i64 x.a, .int .i64 x.o]] W fun e w' => e = .returned (.bool b) ∧ Below W.heap.size W w' := by
  subst h; exact pvI_any x.s x.a x.o W

set_option maxRecDepth 8000 in
set_option maxHeartbeats 4000000 in
theorem lvI_any (va : Value) (l : List Pt) (w : World) (hs : SlAt w va l.length 3 (pcC l)) (hn : l.length ≤ 1048576) :
    Calls Tryd.prog 62 #[va] w fun e w' => e = .returned (.bool (l.all pvP && decide (l.length ≤ 12))) ∧ Below w.heap.size w w' := by
  have hO := Own.start w
  have hF := True.intro
  obtain ⟨A, c, rfl, nb, hA⟩ := hs.open
  have HA := hid hs
  clear hs
  obtain ⟨n, hnl⟩ : ∃ n, l.length = n := ⟨_, rfl⟩
  have HN := hid hnl
  rw [hnl] at hn nb hA HA ⊢
  clear hnl
  by_cases h12 : n ≤ 12
  · have h12' : (n : Int) ≤ 12 := by omega
    have HE := hid (show (l.all pvP && decide (n ≤ 12)) = l.all pvP by rw [decide_eq_true h12, Bool.and_true])
    go_enter Tryd.func62, Tryd.ntmps62
    go_wp2_with fail
    (apply own_code hO; (repeat (first | (with_reducible exact hO) | (with_reducible apply Own.alloc) | (with_reducible apply Own.drew) | ((with_reducible apply Own.set_at); (focus (show _ ≤ _; omega))))); have hG := hF; clear hF; clear hO; intro hO; (try simp only [World.size_alloc1, World.size_drew, Nat.reduceAdd] at hO); (try simp only [upd, updI, List.map_cons, List.map_nil, eq_self, if_true, if_false, reduceIte, Nat.add_eq_left, Nat.left_eq_add, Nat.reduceEqDiff, List.set_cons_zero, List.set_cons_succ, hG] at hO); clear hG; have hF := hO; (try simp only [Own, Item.Holds, apartI, CellsAt, Nat.reduceAdd, Nat.zero_add, List.mem_cons, List.not_mem_nil, or_false, forall_eq_or_imp, forall_eq, ne_eq, false_imp_iff, implies_true, and_true] at hF))
    go_loopw [10] (fun t wr => ∃ j : Nat, j ≤ n ∧ t = .int .i64 j ∧ Hid (∀ (i : Nat) (x : Pt), i < j → l[i]? = some x → pvP x = true) ∧ Own w.heap.size (Below w.heap.size w) wr []) (fun t _ => n - (intOf t).toNat)
    case atStart => exact ⟨0, by omega, rfl, fun i x h => by omega, hO⟩
    case round =>
      clear hO hF
      obtain ⟨j, hj, rfl, hv, hO⟩ := hrel
      have hF := hO; (try simp only [Own, Item.Holds, apartI, CellsAt, Nat.reduceAdd, Nat.zero_add, List.mem_cons, List.not_mem_nil, or_false, forall_eq_or_imp, forall_eq, ne_eq, false_imp_iff, implies_true, and_true] at hF)
      by_cases he : j = n
      · subst he
        have HV := hid (show l.all pvP = true by
          rw [List.all_eq_true]
          intro x hx
          obtain ⟨i, hi, rfl⟩ := List.getElem_of_mem hx
          exact hv.out i _ (by have := HN.out; omega) (List.getElem?_eq_getElem hi))
        go_wp2_with fail
        go_ret
        exact ⟨ret_bool (by rw [HE.out, HV.out]), hO.base⟩
      · have hlt : j < n := by omega
        have hlt2 : (j : Int) < n := by omega
        obtain ⟨b, off, rfl, hc1, hc2, hb⟩ := hA (by omega)
        obtain ⟨x, hx⟩ : ∃ x, l[j]? = some x := ⟨_, List.getElem?_eq_getElem (by have := HN.out; omega)⟩
        obtain ⟨d0, d1, d2⟩ := ptAt (HA.out.below hO.base) hx
        have HX := hid hx
        obtain ⟨d, hd⟩ : ∃ b, pvP x = b := ⟨_, rfl⟩
        have HC := hid (fun W => pvI_at hd W)
        clear he hx
        cases d
        · have HV := hid (show l.all pvP = false by
            rw [← Bool.not_eq_true, List.all_eq_true]
            intro h
            rw [h x (List.mem_of_getElem? HX.out)] at hd
            cases hd)
          clear hd
          go_wp2_with (go_at_call 61; apply own_at hO; (repeat (first | (with_reducible exact hO) | (with_reducible apply Own.alloc) | (with_reducible apply Own.drew) | ((with_reducible apply Own.set_at); (focus (show _ ≤ _; omega))))); have hG := hF; clear hF; clear hO; intro hO; refine own_call hO (fun hB => HC.out _) ?_; clear hO; intro w1 hO; (try simp only [World.size_alloc1, World.size_drew, Nat.reduceAdd] at hO); (try simp only [upd, updI, List.map_cons, List.map_nil, eq_self, if_true, if_false, reduceIte, Nat.add_eq_left, Nat.left_eq_add, Nat.reduceEqDiff, List.set_cons_zero, List.set_cons_succ, hG] at hO); clear hG; have hF := hO; (try simp only [Own, Item.Holds, apartI, CellsAt, Nat.reduceAdd, Nat.zero_add, List.mem_cons, List.not_mem_nil, or_false, forall_eq_or_imp, forall_eq, ne_eq, false_imp_iff, implies_true, and_true] at hF))
          go_ret
          exact ⟨ret_bool (by rw [HE.out, HV.out]), Own.base (by (repeat (first | (with_reducible exact hO) | (with_reducible apply Own.alloc) | (with_reducible apply Own.drew) | ((with_reducible apply Own.set_at); (focus (show _ ≤ _; omega))))))⟩
        · have HB := hid (show ∀ (i : Nat) (z : Pt), i < j + 1 → l[i]? = some z → pvP z = true from fun i z hi hz => by
            rcases (show i < j ∨ i = j by omega) with h | rfl
            · exact hv.out i z h hz
            · rw [HX.out] at hz; cases hz; exact hd)
          clear hd
          go_wp2_with (go_at_call 61; apply own_at hO; (repeat (first | (with_reducible exact hO) | (with_reducible apply Own.alloc) | (with_reducible apply Own.drew) | ((with_reducible apply Own.set_at); (focus (show _ ≤ _; omega))))); have hG := hF; clear hF; clear hO; intro hO; refine own_call hO (fun hB => HC.out _) ?_; clear hO; intro w1 hO; (try simp only [World.size_alloc1, World.size_drew, Nat.reduceAdd] at hO); (try simp only [upd, updI, List.map_cons, List.map_nil, eq_self, if_true, if_false, reduceIte, Nat.add_eq_left, Nat.left_eq_add, Nat.reduceEqDiff, List.set_cons_zero, List.set_cons_succ, hG] at hO); clear hG; have hF := hO; (try simp only [Own, Item.Holds, apartI, CellsAt, Nat.reduceAdd, Nat.zero_add, List.mem_cons, List.not_mem_nil, or_false, forall_eq_or_imp, forall_eq, ne_eq, false_imp_iff, implies_true, and_true] at hF))
          go_roundw
          case rel => exact ⟨j + 1, by omega, by go_num, HB.out, Own.drop hO⟩
          case measure => simp [intOf]; omega
  · have h12' : ¬ (n : Int) ≤ 12 := by omega
    have h12'' : 12 < (n : Int) := by omega
    have HE := hid (show (l.all pvP && decide (n ≤ 12)) = false by rw [decide_eq_false h12, Bool.and_false])
    go_enter Tryd.func62, Tryd.ntmps62
    go_wp2_with fail
    go_ret
    exact ⟨ret_bool (by first | rfl | rw [HE.out]), Own.base (by (repeat (first | (with_reducible exact hO) | (with_reducible apply Own.alloc) | (with_reducible apply Own.drew) | ((with_reducible apply Own.set_at); (focus (show _ ≤ _; omega))))))⟩
theorem lvI_is {va : Value} {l : List Pt} {w : World} {b : Bool} {n : Nat} (hl : l.length = n) (hs : SlAt w va n 3 (pcC l)) (hn : n ≤ 1048576) (hb : (l.all pvP && decide (n ≤ 12)) = b) (W : World) (hW : Below w.heap.size w W) :
    Calls Tryd.prog 62 #[va] W fun e w' => e = .returned (.bool b) ∧ Below W.heap.size W w' := by
  subst hl hb; exact lvI_any va l W (hs.below hW) hn
end Go.Proofs.YtieoobanpllmgaaDoor
