/- Chapter 10 in the program: tables, sets of classes: the least one, the classes of pitches, seen from a root, ascending. -/
import Derived.Test.YtfdglkiehkilnaaDoorPure10S
import Derived.Test.YtfdglkiehkilnaaDoorWalksPt
import Derived.Test.YtfdglkiehkilnaaDoorWalks10V
import Derived.Test.YtfdglkiehkilnaaDoorWalks1
import Derived.Test.YtfdglkiehkilnaaDoorWalks2I
import Derived.Test.YtfdglkiehkilnaaDoorWalks10T
import Derived.Laws.BitsAllLaws
import Derived.Test.YtfdglkiehkilnaaDoorRegionD
namespace Go.Proofs.YtfdglkiehkilnaaDoor
set_option linter.unusedSimpArgs false
set_option linter.unusedVariables false
set_option maxRecDepth 8000
open Go.RowKit Go.Joins

/- Chapter 10 in the program: kinds of sets, lists of valid pitches, tones by their class, the lowest pitch. -/
open Go.RowKit Go.Joins

set_option maxRecDepth 8000 in
set_option maxHeartbeats 4000000 in
theorem tnI_any (va : Value) (l : List Pt) (y : Pt) (w : World) (hs : SlAt w va l.length 3 (pcC l)) (hn : l.length ≤ 1048576) :
    Calls Tryd.prog 137 #[va, .agg #[.int .i64 y.s, .int .i64 y.a, .int .i64 y.o]] w fun e w' => e = .returned (.int .i64 (fsN l y 0)) ∧ Below w.heap.size w w' := by
  have hO := Own.start w
  have hF := True.intro
  obtain ⟨A, c, rfl, nb, hA⟩ := hs.open
  have HA := hid hs
  clear hs
  obtain ⟨n, hnl⟩ : ∃ n, l.length = n := ⟨_, rfl⟩
  have HN := hid hnl
  rw [hnl] at hn nb hA HA
  clear hnl
  go_enter Tryd.func137, Tryd.ntmps137
  rw [HN.out]
  go_wp2_with fail
  (apply own_code hO; (repeat (first | (with_reducible exact hO) | (with_reducible apply Own.alloc) | (with_reducible apply Own.drew) | ((with_reducible apply Own.set_at); (focus (show _ ≤ _; omega))))); have hG := hF; clear hF; clear hO; intro hO; (try simp only [World.size_alloc1, World.size_drew, Nat.reduceAdd] at hO); (try simp only [upd, updI, List.map_cons, List.map_nil, eq_self, if_true, if_false, reduceIte, Nat.add_eq_left, Nat.left_eq_add, Nat.reduceEqDiff, List.set_cons_zero, List.set_cons_succ, hG] at hO); clear hG; have hF := hO; (try simp only [Own, Item.Holds, apartI, CellsAt, Nat.reduceAdd, Nat.zero_add, List.mem_cons, List.not_mem_nil, or_false, forall_eq_or_imp, forall_eq, ne_eq, false_imp_iff, implies_true, and_true] at hF))
  go_loopw [9] (fun t wr => ∃ j : Nat, j ≤ n ∧ t = .int .i64 j ∧ Hid (fsN l y 0 = fsN l y j) ∧ Own w.heap.size (Below w.heap.size w) wr [.blk w.heap.size [.int .i64 y.s, .int .i64 y.a, .int .i64 y.o]]) (fun t _ => n - (intOf t).toNat)
  case atStart => exact ⟨0, by omega, rfl, rfl, hO⟩
  case round =>
    clear hO hF
    obtain ⟨j, hj, rfl, hno, hO⟩ := hrel
    have hF := hO; (try simp only [Own, Item.Holds, apartI, CellsAt, Nat.reduceAdd, Nat.zero_add, List.mem_cons, List.not_mem_nil, or_false, forall_eq_or_imp, forall_eq, ne_eq, false_imp_iff, implies_true, and_true] at hF)
    by_cases he : j = n
    · subst he
      have HE := hid (hno.out.trans (fs_end (by rw [HN.out]; exact Nat.le_refl _)))
      go_wp2_with fail
      go_ret
      exact ⟨ret_int HE.out.symm, hO.base⟩
    · have hlt : j < n := by omega
      have hlt2 : (j : Int) < n := by omega
      obtain ⟨b, off, rfl, hc1, hc2, hb⟩ := hA (by omega)
      obtain ⟨x, hx⟩ : ∃ x, l[j]? = some x := ⟨_, List.getElem?_eq_getElem (by have := HN.out; omega)⟩
      obtain ⟨d0, d1, d2⟩ := ptAt (HA.out.below hO.base) hx
      have HX := hid hx
      have HU := hid (show clB x y = ((x.s == y.s) && (x.a == y.a)) from rfl)
      obtain ⟨b1, h1⟩ : ∃ b, (x.s == y.s) = b := ⟨_, rfl⟩
      obtain ⟨b2, h2⟩ : ∃ b, (x.a == y.a) = b := ⟨_, rfl⟩
      rw [h1, h2] at HU
      clear he hx
      cases b1 <;> cases b2
      case true.true =>
        have HE := hid (hno.out.trans (fs_hit HX.out HU.out))
        go_wp2_with fail
        go_ret
        exact ⟨ret_int HE.out.symm, Own.base (by (repeat (first | (with_reducible exact hO) | (with_reducible apply Own.alloc) | (with_reducible apply Own.drew) | ((with_reducible apply Own.set_at); (focus (show _ ≤ _; omega))))))⟩
      all_goals
        have HE := hid (hno.out.trans (fs_miss HX.out HU.out))
        go_wp2_with fail
        go_roundw
        case rel => exact ⟨j + 1, by omega, by go_num, HE.out, Own.drop (by (repeat (first | (with_reducible exact hO) | (with_reducible apply Own.alloc) | (with_reducible apply Own.drew) | ((with_reducible apply Own.set_at); (focus (show _ ≤ _; omega))))))⟩
        case measure => simp [intOf]; omega
theorem tnI_is {t : List Pt} {y : Pt} {m : Nat} {z : Int} (hm : t.length = m) (hn : m ≤ 1048576) (hz : fsN t y 0 = z) (va : Value) (W : World) (hs : SlAt W va m 3 (pcC t)) :
    Calls Tryd.prog 137 #[va, .agg #[.int .i64 y.s, .int .i64 y.a, .int .i64 y.o]] W fun e w' => e = .returned (.int .i64 z) ∧ Below W.heap.size W w' := by
  subst hm hz; exact tnI_any va t y W hs hn

theorem all_ix {l : List Pt} {p : Pt → Bool} {n : Nat} (hn : l.length = n) (h : ∀ (i : Nat) (x : Pt), i < n → l[i]? = some x → p x = true) : l.all p = true := by
  rw [List.all_eq_true]
  intro x hx
  obtain ⟨i, hi, rfl⟩ := List.getElem_of_mem hx
  exact h i _ (by omega) (List.getElem?_eq_getElem hi)

set_option maxRecDepth 8000 in
set_option maxHeartbeats 4000000 in
theorem saI_any (vt va : Value) (t l : List Pt) (w : World) (ht : SlAt w vt t.length 3 (pcC t)) (hs : SlAt w va l.length 3 (pcC l)) (hm : t.length ≤ 1048576) (hn : l.length ≤ 1048576) :
    Calls Tryd.prog 129 #[vt, va] w fun e w' => e = .returned (.bool (l.all (hasB t))) ∧ Below w.heap.size w w' := by
  have hO := Own.start w
  have hF := True.intro
  obtain ⟨A, c, rfl, nb, hA⟩ := hs.open
  have HA := hid hs
  have HT := hid ht
  obtain ⟨A2, c2, rfl⟩ := ht.form
  clear hs ht
  obtain ⟨n, hnl⟩ : ∃ n, l.length = n := ⟨_, rfl⟩
  obtain ⟨m, hml⟩ : ∃ m, t.length = m := ⟨_, rfl⟩
  have HN := hid hnl
  have HM := hid hml
  rw [hnl] at hn nb hA HA
  rw [hml] at hm HT
  rw [hml]
  rw [hnl]
  clear hnl hml
  go_enter Tryd.func129, Tryd.ntmps129
  go_wp2_with fail
  (apply own_code hO; (repeat (first | (with_reducible exact hO) | (with_reducible apply Own.alloc) | (with_reducible apply Own.drew) | ((with_reducible apply Own.set_at); (focus (show _ ≤ _; omega))))); have hG := hF; clear hF; clear hO; intro hO; (try simp only [World.size_alloc1, World.size_drew, Nat.reduceAdd] at hO); (try simp only [upd, updI, List.map_cons, List.map_nil, eq_self, if_true, if_false, reduceIte, Nat.add_eq_left, Nat.left_eq_add, Nat.reduceEqDiff, List.set_cons_zero, List.set_cons_succ, hG] at hO); clear hG; have hF := hO; (try simp only [Own, Item.Holds, apartI, CellsAt, Nat.reduceAdd, Nat.zero_add, List.mem_cons, List.not_mem_nil, or_false, forall_eq_or_imp, forall_eq, ne_eq, false_imp_iff, implies_true, and_true] at hF))
  go_loopw [9] (fun u wr => ∃ j : Nat, j ≤ n ∧ u = .int .i64 j ∧ Hid (∀ (i : Nat) (x : Pt), i < j → l[i]? = some x → hasB t x = true) ∧ Own w.heap.size (Below w.heap.size w) wr []) (fun u _ => n - (intOf u).toNat)
  case atStart => exact ⟨0, by omega, rfl, fun i x h => by omega, hO⟩
  case round =>
    clear hO hF
    obtain ⟨j, hj, rfl, hv, hO⟩ := hrel
    have hF := hO; (try simp only [Own, Item.Holds, apartI, CellsAt, Nat.reduceAdd, Nat.zero_add, List.mem_cons, List.not_mem_nil, or_false, forall_eq_or_imp, forall_eq, ne_eq, false_imp_iff, implies_true, and_true] at hF)
    by_cases he : j = n
    · subst he
      have HV := hid (show l.all (hasB t) = true from all_ix HN.out hv.out)
      go_wp2_with fail
      go_ret
      exact ⟨ret_bool HV.out.symm, hO.base⟩
    · have hlt : j < n := by omega
      have hlt2 : (j : Int) < n := by omega
      obtain ⟨b, off, rfl, hc1, hc2, hb⟩ := hA (by omega)
      obtain ⟨x, hx⟩ : ∃ x, l[j]? = some x := ⟨_, List.getElem?_eq_getElem (by have := HN.out; omega)⟩
      obtain ⟨d0, d1, d2⟩ := ptAt (HA.out.below hO.base) hx
      have HX := hid hx
      obtain ⟨z, hz⟩ : ∃ z, fsN t x 0 = z := ⟨_, rfl⟩
      have HC := hid (fun W (hW : Below w.heap.size w W) => tnI_is HM.out hm hz _ W (HT.out.below hW))
      clear he hx
      cases hd : hasB t x
      · have hz1 := fs_none.2 hd
        rw [hz] at hz1
        subst hz1
        have HV := hid (show l.all (hasB t) = false by
          rw [← Bool.not_eq_true, List.all_eq_true]
          intro h
          rw [h x (List.mem_of_getElem? HX.out)] at hd
          cases hd)
        clear hd hz
        go_wp2_with (go_at_call 137; apply own_at hO; (repeat (first | (with_reducible exact hO) | (with_reducible apply Own.alloc) | (with_reducible apply Own.drew) | ((with_reducible apply Own.set_at); (focus (show _ ≤ _; omega))))); have hG := hF; clear hF; clear hO; intro hO; refine own_call hO (fun hB => HC.out _ hB) ?_; clear hO; intro w1 hO; (try simp only [World.size_alloc1, World.size_drew, Nat.reduceAdd] at hO); (try simp only [upd, updI, List.map_cons, List.map_nil, eq_self, if_true, if_false, reduceIte, Nat.add_eq_left, Nat.left_eq_add, Nat.reduceEqDiff, List.set_cons_zero, List.set_cons_succ, hG] at hO); clear hG; have hF := hO; (try simp only [Own, Item.Holds, apartI, CellsAt, Nat.reduceAdd, Nat.zero_add, List.mem_cons, List.not_mem_nil, or_false, forall_eq_or_imp, forall_eq, ne_eq, false_imp_iff, implies_true, and_true] at hF))
        go_ret
        exact ⟨ret_bool HV.out.symm, Own.base (by (repeat (first | (with_reducible exact hO) | (with_reducible apply Own.alloc) | (with_reducible apply Own.drew) | ((with_reducible apply Own.set_at); (focus (show _ ≤ _; omega))))))⟩
      · obtain ⟨i, _, hi, _⟩ := fs_has hd
        rw [hz] at hi
        subst hi
        have hne : ((i : Int) == -1) = false := by simp
        have HB := hid (show ∀ (i : Nat) (z : Pt), i < j + 1 → l[i]? = some z → hasB t z = true from fun i z hi hz => by
          rcases (show i < j ∨ i = j by omega) with h | rfl
          · exact hv.out i z h hz
          · rw [HX.out] at hz; cases hz; exact hd)
        clear hd hz
        go_wp2_with (go_at_call 137; apply own_at hO; (repeat (first | (with_reducible exact hO) | (with_reducible apply Own.alloc) | (with_reducible apply Own.drew) | ((with_reducible apply Own.set_at); (focus (show _ ≤ _; omega))))); have hG := hF; clear hF; clear hO; intro hO; refine own_call hO (fun hB => HC.out _ hB) ?_; clear hO; intro w1 hO; (try simp only [World.size_alloc1, World.size_drew, Nat.reduceAdd] at hO); (try simp only [upd, updI, List.map_cons, List.map_nil, eq_self, if_true, if_false, reduceIte, Nat.add_eq_left, Nat.left_eq_add, Nat.reduceEqDiff, List.set_cons_zero, List.set_cons_succ, hG] at hO); clear hG; have hF := hO; (try simp only [Own, Item.Holds, apartI, CellsAt, Nat.reduceAdd, Nat.zero_add, List.mem_cons, List.not_mem_nil, or_false, forall_eq_or_imp, forall_eq, ne_eq, false_imp_iff, implies_true, and_true] at hF))
        go_roundw
        case rel => exact ⟨j + 1, by omega, by go_num, HB.out, Own.drop hO⟩
        case measure => simp [intOf]; omega
theorem saI_is {t l : List Pt} {m n : Nat} {b : Bool} (hm : t.length = m) (hn : l.length = n) (h1 : m ≤ 1048576) (h2 : n ≤ 1048576) (hb : l.all (hasB t) = b) (vt va : Value) (W : World) (hs : SlAt W va n 3 (pcC l)) (ht : SlAt W vt m 3 (pcC t)) :
    Calls Tryd.prog 129 #[vt, va] W fun e w' => e = .returned (.bool b) ∧ Below W.heap.size W w' := by
  subst hm hn hb; exact saI_any vt va t l W ht hs h1 h2