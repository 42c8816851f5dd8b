/- Chapter 12 in the model: faults of chords of four voices, of ways, of parts. -/
import Derived.Test.YtfdglkiehkilnaaDoorWalks10T
import Derived.Test.YtfdglkiehkilnaaDoorWalks12W
import Derived.Test.YtfdglkiehkilnaaDoorPure11
import Derived.Test.YtfdglkiehkilnaaDoorStks
import Derived.WalkLawsBesides
import Derived.Test.YtfdglkiehkilnaaDoorRegionD
namespace Go.Proofs.YtfdglkiehkilnaaDoor
set_option linter.unusedSimpArgs false
set_option linter.unusedVariables false
set_option maxRecDepth 8000
open Go.RowKit

theorem lo_at {k : Nat} (h : k < 4) : [28, 36, 43, 48][k]? = some (loZ k) := by
  obtain rfl | rfl | rfl | rfl : k = 0 ∨ k = 1 ∨ k = 2 ∨ k = 3 := by omega
  all_goals rfl
theorem hi_at {k : Nat} (h : k < 4) : [48, 55, 62, 67][k]? = some (hiZ k) := by
  obtain rfl | rfl | rfl | rfl : k = 0 ∨ k = 1 ∨ k = 2 ∨ k = 3 := by omega
  all_goals rfl
theorem allP_up {l : List Pt} {p : Pt → Prop} {k : Nat} {x : Pt} (h : ∀ (i : Nat) (z : Pt), i < k → l[i]? = some z → p z) (hx : l[k]? = some x) (hp : p x) : ∀ (i : Nat) (z : Pt), i < k + 1 → l[i]? = some z → p z := fun i z hi hz => by
  rcases (show i < k ∨ i = k by omega) with h' | rfl
  · exact h i z h' hz
  · rw [hx] at hz; cases hz; exact hp
theorem allP_of {l : List Pt} {n : Nat} (hn : l.length = n) (h : ∀ (i : Nat) (z : Pt), i < n → l[i]? = some z → pvP z = true) : ∀ x ∈ l, pvP x = true := fun x hx => by
  obtain ⟨i, hi, rfl⟩ := List.getElem_of_mem hx
  exact h i _ (by omega) (List.getElem?_eq_getElem hi)
theorem vo4_bad {l : List Pt} {x : Pt} (hx : x ∈ l) (h : pvP x = false) : vo4 l = false := by
  rw [← Bool.not_eq_true, vo4_iff]
  rintro ⟨h1, _⟩
  rw [h1 x hx] at h
  cases h
theorem vo4_len {l : List Pt} (h : l.length ≠ 4) : vo4 l = false := by
  rw [← Bool.not_eq_true, vo4_iff]
  rintro ⟨_, h2⟩
  exact h h2
theorem upto_P {p : Nat → Prop} {k : Nat} (h : ∀ i, i < k → p i) (hk : p k) : ∀ i, i < k + 1 → p i := fun i hi => by
  rcases (show i < k ∨ i = k by omega) with h' | rfl
  · exact h i h'
  · exact hk
theorem keyS12 {x : Pt} {z : Int} (h : kyP x = z) (w : World) : Calls Tryd.prog 96 #[.agg #[.int .i64 x.s, .int .i64 x.a, .int .i64 x.o]] w fun e w' => e = .returned (.int .i64 z) ∧ Below w.heap.size w w' := by
  subst h; exact keyS_any x.s x.a x.o w

set_option maxRecDepth 20000 in
set_option maxHeartbeats 8000000 in
theorem stS_any (va : Value) (l : List Pt) (w : World) (hs : SlAt w va l.length 3 (pcC l)) (hn : l.length ≤ 1048576) :
    Calls Tryd.prog 70 #[va] w fun e w' => e = .returned (.int .i64 (stZ l)) ∧ Below w.heap.size w w' := by
  have hO := Own.start w
  have hF := True.intro
  obtain ⟨A, c, rfl, nb, hA⟩ := hs.open
  have HA := hid hs
  clear hs
  obtain ⟨n, hnl⟩ : ∃ n, l.length = n := ⟨_, rfl⟩
  have HN := hid hnl
  rw [hnl] at hn nb hA HA ⊢
  clear hnl
  go_enter Tryd.func70, Tryd.ntmps70
  go_wp2_with fail
  (apply own_code hO; (repeat (first | (with_reducible exact hO) | (with_reducible apply Own.alloc) | (with_reducible apply Own.drew) | ((with_reducible apply Own.set_at); (focus (show _ ≤ _; omega))))); have hG := hF; clear hF; clear hO; intro hO; (try simp only [World.size_alloc1, World.size_drew, Nat.reduceAdd] at hO); (try simp only [upd, updI, List.map_cons, List.map_nil, eq_self, if_true, if_false, reduceIte, Nat.add_eq_left, Nat.left_eq_add, Nat.reduceEqDiff, List.set_cons_zero, List.set_cons_succ, hG] at hO); clear hG; have hF := hO; (try simp only [Own, Item.Holds, apartI, CellsAt, Nat.reduceAdd, Nat.zero_add, List.mem_cons, List.not_mem_nil, or_false, forall_eq_or_imp, forall_eq, ne_eq, false_imp_iff, implies_true, and_true] at hF))
  go_loopw [5] (fun t wr => ∃ k : Nat, k ≤ n ∧ t = .int .i64 k ∧ Hid (∀ (i : Nat) (x : Pt), i < k → l[i]? = some x → pvP x = true) ∧ Own w.heap.size (Below w.heap.size w) wr [.blk (w.heap.size + 1) [.int .i64 48, .int .i64 55, .int .i64 62, .int .i64 67], .blk w.heap.size [.int .i64 28, .int .i64 36, .int .i64 43, .int .i64 48]]) (fun t _ => n - (intOf t).toNat)
  case atStart => exact ⟨0, by omega, rfl, fun i x h => by omega, hO⟩
  case round =>
    clear hO hF
    obtain ⟨k, hk, rfl, hv, hO⟩ := hrel
    have hF := hO; (try simp only [Own, Item.Holds, apartI, CellsAt, Nat.reduceAdd, Nat.zero_add, List.mem_cons, List.not_mem_nil, or_false, forall_eq_or_imp, forall_eq, ne_eq, false_imp_iff, implies_true, and_true] at hF)
    by_cases he : k = n
    · subst he
      by_cases h4 : k = 4
      · subst h4
        have HV := hid (show vo4 l = true from vo4_iff.2 ⟨allP_of HN.out hv.out, HN.out⟩)
        obtain ⟨b, off, rfl, hc1, hc2, hb⟩ := hA (by omega)
        clear hv hn nb hA hk
        go_wp2_with fail
        go_loopw [6] (fun t wr => ∃ i : Nat, i ≤ 3 ∧ t = .int .i64 ((i : Int) + 1) ∧ Hid (∀ j, j < i → ¬ k4 l (j + 1) < k4 l j) ∧ Own w.heap.size (Below w.heap.size w) wr [.blk (w.heap.size + 1) [.int .i64 48, .int .i64 55, .int .i64 62, .int .i64 67], .blk w.heap.size [.int .i64 28, .int .i64 36, .int .i64 43, .int .i64 48]]) (fun t _ => 4 - (intOf t).toNat)
        case atStart => exact ⟨0, by omega, rfl, fun j hj => by omega, hO⟩
        case round =>
          clear hO hF
          obtain ⟨i, hi, rfl, hcr, hO⟩ := hrel
          have hF := hO; (try simp only [Own, Item.Holds, apartI, CellsAt, Nat.reduceAdd, Nat.zero_add, List.mem_cons, List.not_mem_nil, or_false, forall_eq_or_imp, forall_eq, ne_eq, false_imp_iff, implies_true, and_true] at hF)
          by_cases he : i = 3
          · subst he
            have HCR := hid (show ¬ crP l from fun ⟨j, hj, hc⟩ => hcr.out j hj hc)
            clear hcr hi
            go_wp2_with fail
            go_loopw [7] (fun t wr => ∃ i : Nat, i ≤ 2 ∧ t = .int .i64 ((i : Int) + 2) ∧ Hid (∀ j, j < i → ¬ 12 < k4 l (j + 1 + 1) - k4 l (j + 1)) ∧ Own w.heap.size (Below w.heap.size w) wr [.blk (w.heap.size + 1) [.int .i64 48, .int .i64 55, .int .i64 62, .int .i64 67], .blk w.heap.size [.int .i64 28, .int .i64 36, .int .i64 43, .int .i64 48]]) (fun t _ => 4 - (intOf t).toNat)
            case atStart => exact ⟨0, by omega, rfl, fun j hj => by omega, hO⟩
            case round =>
              clear hO hF
              obtain ⟨i, hi, rfl, hfa, hO⟩ := hrel
              have hF := hO; (try simp only [Own, Item.Holds, apartI, CellsAt, Nat.reduceAdd, Nat.zero_add, List.mem_cons, List.not_mem_nil, or_false, forall_eq_or_imp, forall_eq, ne_eq, false_imp_iff, implies_true, and_true] at hF)
              by_cases he : i = 2
              · subst he
                have HFA := hid (show ¬ faP l from fun ⟨j, h1, hj, hc⟩ => by
                  obtain ⟨m, rfl⟩ : ∃ m, j = m + 1 := ⟨j - 1, by omega⟩
                  exact hfa.out m (by omega) hc)
                clear hfa hi
                go_wp2_with fail
                go_loopw [8] (fun t wr => ∃ i : Nat, i ≤ 4 ∧ t = .int .i64 i ∧ Hid (∀ j, j < i → ¬ (k4 l j < loZ j ∨ hiZ j < k4 l j)) ∧ Own w.heap.size (Below w.heap.size w) wr [.blk (w.heap.size + 1) [.int .i64 48, .int .i64 55, .int .i64 62, .int .i64 67], .blk w.heap.size [.int .i64 28, .int .i64 36, .int .i64 43, .int .i64 48]]) (fun t _ => 4 - (intOf t).toNat)
                case atStart => exact ⟨0, by omega, rfl, fun j hj => by omega, hO⟩
                case round =>
                  clear hO hF
                  obtain ⟨i, hi, rfl, hra, hO⟩ := hrel
                  have hF := hO; (try simp only [Own, Item.Holds, apartI, CellsAt, Nat.reduceAdd, Nat.zero_add, List.mem_cons, List.not_mem_nil, or_false, forall_eq_or_imp, forall_eq, ne_eq, false_imp_iff, implies_true, and_true] at hF)
                  by_cases he : i = 4
                  · subst he
                    have HE := hid (st_none HV.out HCR.out HFA.out (fun ⟨j, hj, hc⟩ => hra.out j hj hc))
                    go_wp2_with fail
                    go_ret
                    exact ⟨ret_int HE.out.symm, hO.base⟩
                  · have hil : i < 4 := by omega
                    have hi2 : (i : Int) < 4 := by omega
                    have hi0 : (0 : Int) ≤ (i : Int) := by omega
                    obtain ⟨x, hx⟩ : ∃ x, l[i]? = some x := ⟨_, List.getElem?_eq_getElem (by have := HN.out; omega)⟩
                    have HX := hid hx
                    obtain ⟨z, hz⟩ : ∃ z, k4 l i = z := ⟨_, rfl⟩
                    have HK := hid (fun W => keyS12 (show kyP x = z by rw [← hz, k4_at hx]) W)
                    obtain ⟨lo, hlo⟩ : ∃ z, loZ i = z := ⟨_, rfl⟩
                    obtain ⟨hh, hhi⟩ : ∃ z, hiZ i = z := ⟨_, rfl⟩
                    have HLO := hid (lo_at hil)
                    have HHI := hid (hi_at hil)
                    rw [hlo] at HLO
                    rw [hhi] at HHI
                    obtain ⟨ib, hib⟩ : ∃ b, inB z lo hh = b := ⟨_, rfl⟩
                    have HIN := hid (fun W => in_is W hib)
                    have HB := hid (show (ib = true → ¬ (k4 l i < loZ i ∨ hiZ i < k4 l i)) ∧ (ib = false → k4 l i < loZ i ∨ hiZ i < k4 l i) by
                      rw [hz, hlo, hhi]
                      constructor
                      · rintro rfl
                        have := inB_iff.1 hib
                        omega
                      · rintro rfl
                        rw [← Bool.not_eq_true, inB_iff] at hib
                        omega)
                    clear he hx hz hlo hhi hib
                    go_wp2_with fail
                    apply own_code hO
                    (repeat (first | (with_reducible exact hO) | (with_reducible apply Own.alloc) | (with_reducible apply Own.drew) | ((with_reducible apply Own.set_at); (focus (show _ ≤ _; omega)))))
                    have hG := hF; clear hF; clear hO; intro hO
                    (try simp only [World.size_alloc1, World.size_drew, Nat.reduceAdd] at hO); (try simp only [upd, updI, List.map_cons, List.map_nil, eq_self, if_true, if_false, reduceIte, Nat.add_eq_left, Nat.left_eq_add, Nat.reduceEqDiff, List.set_cons_zero, List.set_cons_succ, hG] at hO); clear hG
                    refine region_own (X := fun _ => True) [] (by kernel_rfl) (hO) (trivial) (by first | exact XStab.true | exact XStab.rd | exact XStab.rdIf) ?_
                    clear hO
                    refine Sim.sP (i := 0) (d := some 63) (h := ?_)
                    refine Sim.sP (i := 1) (d := some 64) (h := ?_)
                    refine Sim.sP (i := 2) (d := some 65) (h := ?_)
                    refine Sim.sO (i := 3) (d := some 66) (v := ?_) (hy := ?_) (h := ?_)
                    rotate_left
                    · first | refine Or.inl ⟨by rfl, fun w hO => ?_⟩ | (refine Or.inr ⟨by rfl, ?_⟩; with_reducible rfl)
                      first | done | (have hF := hO; (try simp only [Own, Item.Holds, apartI, CellsAt, Nat.reduceAdd, Nat.zero_add, List.mem_cons, List.not_mem_nil, or_false, forall_eq_or_imp, forall_eq, ne_eq, false_imp_iff, implies_true, and_true] at hF); ((have ⟨d0, d1, d2⟩ := ptAt (HA.out.below hO.base) HX.out; have c0 := own_ints [28, 36, 43, 48] hO (List.mem_cons_of_mem _ List.mem_cons_self) HLO.out; have c1 := own_ints [48, 55, 62, 67] hO List.mem_cons_self HHI.out)); refine Out.same ?_; go_simp; all_goals with_reducible rfl)
                    refine Sim.sO (i := 4) (d := some 67) (v := ?_) (hy := ?_) (h := ?_)
                    rotate_left
                    · first | refine Or.inl ⟨by rfl, fun w hO => ?_⟩ | (refine Or.inr ⟨by rfl, ?_⟩; with_reducible rfl)
                      first | done | (refine Out.call (f := 96) (args := ?_) ?_ ?_; rotate_left; (focus (go_simp; all_goals with_reducible rfl)); exact HK.out _)
                    refine Sim.sP (i := 5) (d := some 68) (h := ?_)
                    refine Sim.sP (i := 6) (d := some 69) (h := ?_)
                    refine Sim.sP (i := 7) (d := some 70) (h := ?_)
                    refine Sim.sO (i := 8) (d := some 71) (v := ?_) (hy := ?_) (h := ?_)
                    rotate_left
                    · first | refine Or.inl ⟨by rfl, fun w hO => ?_⟩ | (refine Or.inr ⟨by rfl, ?_⟩; with_reducible rfl)
                      first | done | (have hF := hO; (try simp only [Own, Item.Holds, apartI, CellsAt, Nat.reduceAdd, Nat.zero_add, List.mem_cons, List.not_mem_nil, or_false, forall_eq_or_imp, forall_eq, ne_eq, false_imp_iff, implies_true, and_true] at hF); ((have ⟨d0, d1, d2⟩ := ptAt (HA.out.below hO.base) HX.out; have c0 := own_ints [28, 36, 43, 48] hO (List.mem_cons_of_mem _ List.mem_cons_self) HLO.out; have c1 := own_ints [48, 55, 62, 67] hO List.mem_cons_self HHI.out)); refine Out.same ?_; go_simp; all_goals with_reducible rfl)
                    refine Sim.sP (i := 9) (d := some 72) (h := ?_)
                    refine Sim.sP (i := 10) (d := some 73) (h := ?_)
                    refine Sim.sP (i := 11) (d := some 74) (h := ?_)
                    refine Sim.sO (i := 12) (d := some 75) (v := ?_) (hy := ?_) (h := ?_)
                    rotate_left
                    · first | refine Or.inl ⟨by rfl, fun w hO => ?_⟩ | (refine Or.inr ⟨by rfl, ?_⟩; with_reducible rfl)
                      first | done | (have hF := hO; (try simp only [Own, Item.Holds, apartI, CellsAt, Nat.reduceAdd, Nat.zero_add, List.mem_cons, List.not_mem_nil, or_false, forall_eq_or_imp, forall_eq, ne_eq, false_imp_iff, implies_true, and_true] at hF); ((have ⟨d0, d1, d2⟩ := ptAt (HA.out.below hO.base) HX.out; have c0 := own_ints [28, 36, 43, 48] hO (List.mem_cons_of_mem _ List.mem_cons_self) HLO.out; have c1 := own_ints [48, 55, 62, 67] hO List.mem_cons_self HHI.out)); refine Out.same ?_; go_simp; all_goals with_reducible rfl)
                    refine Sim.sO (i := 13) (d := some 76) (v := ?_) (hy := ?_) (h := ?_)
                    rotate_left
                    · first | refine Or.inl ⟨by rfl, fun w hO => ?_⟩ | (refine Or.inr ⟨by rfl, ?_⟩; with_reducible rfl)
                      first | done | (refine Out.call (f := 48) (args := ?_) ?_ ?_; rotate_left; (focus (go_simp; all_goals with_reducible rfl)); exact HIN.out _)
                    refine Sim.sP (i := 14) (d := some 77) (h := ?_)
                    refine Sim.done (by kernel_rfl) (fun w1 hO hX => ?_) _
                    (try simp only [World.size_alloc1, World.size_drew, Nat.reduceAdd] at hO); (try simp only [upd, updI, List.map_cons, List.map_nil, eq_self, if_true, if_false, reduceIte, Nat.add_eq_left, Nat.left_eq_add, Nat.reduceEqDiff, List.set_cons_zero, List.set_cons_succ] at hO)
                    have hF := hO; (try simp only [Own, Item.Holds, apartI, CellsAt, Nat.reduceAdd, Nat.zero_add, List.mem_cons, List.not_mem_nil, or_false, forall_eq_or_imp, forall_eq, ne_eq, false_imp_iff, implies_true, and_true] at hF)
                    all_goals
                      cases ib
                      · have HE := hid (st_range HV.out HCR.out HFA.out ⟨i, hil, HB.out.2 rfl⟩)
                        go_wp2
                        go_ret
                        exact ⟨ret_int HE.out.symm, Own.base (by first | exact hO | (repeat (first | (with_reducible exact hO) | (with_reducible apply Own.alloc) | (with_reducible apply Own.drew) | ((with_reducible apply Own.set_at); (focus (show _ ≤ _; omega))))))⟩
                      · have HU := hid (upto_P hra.out (HB.out.1 rfl))
                        go_wp2
                        go_roundw
                        case rel => first | exact ⟨i + 1, by omega, by go_num, HU.out, hO⟩ | exact ⟨i + 1, by omega, by go_num, HU⟩
                        case measure => simp [intOf]; omega
              · have hil : i < 2 := by omega
                have hi2 : (i : Int) < 2 := by omega
                have hi0 : (0 : Int) ≤ (i : Int) := by omega
                have wi : IntKind.i64.wrap ((i : Int) + 2 - 1) = (i : Int) + 1 := by rw [show (i : Int) + 2 - 1 = (i : Int) + 1 by omega]; exact IntWalk.i64_in _ (by omega)
                have wi2 : IntKind.i64.wrap ((i : Int) + 1) = (i : Int) + 1 := IntWalk.i64_in _ (by omega)
                have wj : IntKind.i64.wrap ((i : Int) + 2 + 1) = (i : Int) + 2 + 1 := IntWalk.i64_in _ (by omega)
                have hj1 : (i : Int) + 2 < 4 := by omega
                have hj2 : (i : Int) + 1 < 4 := by omega
                have hj3 : (0 : Int) ≤ (i : Int) + 2 := by omega
                have hj4 : (0 : Int) ≤ (i : Int) + 1 := by omega
                have tn : ((i : Int) + 2).toNat = i + 1 + 1 := by omega
                obtain ⟨x, hx⟩ : ∃ x, l[i + 1 + 1]? = some x := ⟨_, List.getElem?_eq_getElem (by have := HN.out; omega)⟩
                obtain ⟨y, hy⟩ : ∃ x, l[i + 1]? = some x := ⟨_, List.getElem?_eq_getElem (by have := HN.out; omega)⟩
                have HX := hid (And.intro hx hy)
                obtain ⟨z1, hz1⟩ : ∃ z, k4 l (i + 1 + 1) = z := ⟨_, rfl⟩
                obtain ⟨z2, hz2⟩ : ∃ z, k4 l (i + 1) = z := ⟨_, rfl⟩
                have b1 := k4_bd HV.out (i := i + 1 + 1) (by omega)
                have b2 := k4_bd HV.out (i := i + 1) (by omega)
                rw [hz1] at b1
                rw [hz2] at b2
                have HK1 := hid (fun W => keyS12 (show kyP x = z1 by rw [← hz1, k4_at hx]) W)
                have HK2 := hid (fun W => keyS12 (show kyP y = z2 by rw [← hz2, k4_at hy]) W)
                have wz : IntKind.i64.wrap (z1 - z2) = z1 - z2 := IntWalk.i64_in _ (by omega)
                have HZ := hid (And.intro hz1 hz2)
                clear he hx hy hz1 hz2
                by_cases hc : 12 < z1 - z2
                · have HE := hid (st_far HV.out HCR.out ⟨i + 1, by omega, by omega, by rw [HZ.out.1, HZ.out.2]; exact hc⟩)
                  go_wp2_with fail
                  apply own_code hO
                  (repeat (first | (with_reducible exact hO) | (with_reducible apply Own.alloc) | (with_reducible apply Own.drew) | ((with_reducible apply Own.set_at); (focus (show _ ≤ _; omega)))))
                  have hG := hF; clear hF; clear hO; intro hO
                  (try simp only [World.size_alloc1, World.size_drew, Nat.reduceAdd] at hO); (try simp only [upd, updI, List.map_cons, List.map_nil, eq_self, if_true, if_false, reduceIte, Nat.add_eq_left, Nat.left_eq_add, Nat.reduceEqDiff, List.set_cons_zero, List.set_cons_succ, hG] at hO); clear hG
                  refine region_own (X := fun _ => True) [] (by kernel_rfl) (hO) (trivial) (by first | exact XStab.true | exact XStab.rd | exact XStab.rdIf) ?_
                  clear hO
                  refine Sim.sP (i := 0) (d := some 46) (h := ?_)
                  refine Sim.sP (i := 1) (d := some 47) (h := ?_)
                  refine Sim.sP (i := 2) (d := some 48) (h := ?_)
                  refine Sim.sO (i := 3) (d := some 49) (v := ?_) (hy := ?_) (h := ?_)
                  rotate_left
                  · first | refine Or.inl ⟨by rfl, fun w hO => ?_⟩ | (refine Or.inr ⟨by rfl, ?_⟩; with_reducible rfl)
                    first | done | (have hF := hO; (try simp only [Own, Item.Holds, apartI, CellsAt, Nat.reduceAdd, Nat.zero_add, List.mem_cons, List.not_mem_nil, or_false, forall_eq_or_imp, forall_eq, ne_eq, false_imp_iff, implies_true, and_true] at hF); ((have ⟨d0, d1, d2⟩ := ptAt (HA.out.below hO.base) HX.out.1; have ⟨g0, g1, g2⟩ := ptAt (HA.out.below hO.base) HX.out.2)); refine Out.same ?_; go_simp; all_goals with_reducible rfl)
                  refine Sim.sO (i := 4) (d := some 50) (v := ?_) (hy := ?_) (h := ?_)
                  rotate_left
                  · first | refine Or.inl ⟨by rfl, fun w hO => ?_⟩ | (refine Or.inr ⟨by rfl, ?_⟩; with_reducible rfl)
                    first | done | (refine Out.call (f := 96) (args := ?_) ?_ ?_; rotate_left; (focus (go_simp; all_goals with_reducible rfl)); exact HK1.out _)
                  refine Sim.sP (i := 5) (d := some 51) (h := ?_)
                  refine Sim.sP (i := 6) (d := some 52) (h := ?_)
                  refine Sim.sP (i := 7) (d := some 53) (h := ?_)
                  refine Sim.sP (i := 8) (d := some 54) (h := ?_)
                  refine Sim.sO (i := 9) (d := some 55) (v := ?_) (hy := ?_) (h := ?_)
                  rotate_left
                  · first | refine Or.inl ⟨by rfl, fun w hO => ?_⟩ | (refine Or.inr ⟨by rfl, ?_⟩; with_reducible rfl)
                    first | done | (have hF := hO; (try simp only [Own, Item.Holds, apartI, CellsAt, Nat.reduceAdd, Nat.zero_add, List.mem_cons, List.not_mem_nil, or_false, forall_eq_or_imp, forall_eq, ne_eq, false_imp_iff, implies_true, and_true] at hF); ((have ⟨d0, d1, d2⟩ := ptAt (HA.out.below hO.base) HX.out.1; have ⟨g0, g1, g2⟩ := ptAt (HA.out.below hO.base) HX.out.2)); refine Out.same ?_; go_simp; all_goals with_reducible rfl)
                  refine Sim.sO (i := 10) (d := some 56) (v := ?_) (hy := ?_) (h := ?_)
                  rotate_left
                  · first | refine Or.inl ⟨by rfl, fun w hO => ?_⟩ | (refine Or.inr ⟨by rfl, ?_⟩; with_reducible rfl)
                    first | done | (refine Out.call (f := 96) (args := ?_) ?_ ?_; rotate_left; (focus (go_simp; all_goals with_reducible rfl)); exact HK2.out _)
                  refine Sim.sP (i := 11) (d := some 57) (h := ?_)
                  refine Sim.sP (i := 12) (d := some 58) (h := ?_)
                  refine Sim.done (by kernel_rfl) (fun w1 hO hX => ?_) _
                  (try simp only [World.size_alloc1, World.size_drew, Nat.reduceAdd] at hO); (try simp only [upd, updI, List.map_cons, List.map_nil, eq_self, if_true, if_false, reduceIte, Nat.add_eq_left, Nat.left_eq_add, Nat.reduceEqDiff, List.set_cons_zero, List.set_cons_succ] at hO)
                  have hF := hO; (try simp only [Own, Item.Holds, apartI, CellsAt, Nat.reduceAdd, Nat.zero_add, List.mem_cons, List.not_mem_nil, or_false, forall_eq_or_imp, forall_eq, ne_eq, false_imp_iff, implies_true, and_true] at hF)
                  all_goals
                    go_wp2
                    go_ret
                    exact ⟨ret_int HE.out.symm, Own.base (by first | exact hO | (repeat (first | (with_reducible exact hO) | (with_reducible apply Own.alloc) | (with_reducible apply Own.drew) | ((with_reducible apply Own.set_at); (focus (show _ ≤ _; omega))))))⟩
                · have HU := hid (upto_P hfa.out (show ¬ 12 < k4 l (i + 1 + 1) - k4 l (i + 1) by rw [HZ.out.1, HZ.out.2]; exact hc))
                  go_wp2_with fail
                  apply own_code hO
                  (repeat (first | (with_reducible exact hO) | (with_reducible apply Own.alloc) | (with_reducible apply Own.drew) | ((with_reducible apply Own.set_at); (focus (show _ ≤ _; omega)))))
                  have hG := hF; clear hF; clear hO; intro hO
                  (try simp only [World.size_alloc1, World.size_drew, Nat.reduceAdd] at hO); (try simp only [upd, updI, List.map_cons, List.map_nil, eq_self, if_true, if_false, reduceIte, Nat.add_eq_left, Nat.left_eq_add, Nat.reduceEqDiff, List.set_cons_zero, List.set_cons_succ, hG] at hO); clear hG
                  refine region_own (X := fun _ => True) [] (by kernel_rfl) (hO) (trivial) (by first | exact XStab.true | exact XStab.rd | exact XStab.rdIf) ?_
                  clear hO
                  refine Sim.sP (i := 0) (d := some 46) (h := ?_)
                  refine Sim.sP (i := 1) (d := some 47) (h := ?_)
                  refine Sim.sP (i := 2) (d := some 48) (h := ?_)
                  refine Sim.sO (i := 3) (d := some 49) (v := ?_) (hy := ?_) (h := ?_)
                  rotate_left
                  · first | refine Or.inl ⟨by rfl, fun w hO => ?_⟩ | (refine Or.inr ⟨by rfl, ?_⟩; with_reducible rfl)
                    first | done | (have hF := hO; (try simp only [Own, Item.Holds, apartI, CellsAt, Nat.reduceAdd, Nat.zero_add, List.mem_cons, List.not_mem_nil, or_false, forall_eq_or_imp, forall_eq, ne_eq, false_imp_iff, implies_true, and_true] at hF); ((have ⟨d0, d1, d2⟩ := ptAt (HA.out.below hO.base) HX.out.1; have ⟨g0, g1, g2⟩ := ptAt (HA.out.below hO.base) HX.out.2)); refine Out.same ?_; go_simp; all_goals with_reducible rfl)
                  refine Sim.sO (i := 4) (d := some 50) (v := ?_) (hy := ?_) (h := ?_)
                  rotate_left
                  · first | refine Or.inl ⟨by rfl, fun w hO => ?_⟩ | (refine Or.inr ⟨by rfl, ?_⟩; with_reducible rfl)
                    first | done | (refine Out.call (f := 96) (args := ?_) ?_ ?_; rotate_left; (focus (go_simp; all_goals with_reducible rfl)); exact HK1.out _)
                  refine Sim.sP (i := 5) (d := some 51) (h := ?_)
                  refine Sim.sP (i := 6) (d := some 52) (h := ?_)
                  refine Sim.sP (i := 7) (d := some 53) (h := ?_)
                  refine Sim.sP (i := 8) (d := some 54) (h := ?_)
                  refine Sim.sO (i := 9) (d := some 55) (v := ?_) (hy := ?_) (h := ?_)
                  rotate_left
                  · first | refine Or.inl ⟨by rfl, fun w hO => ?_⟩ | (refine Or.inr ⟨by rfl, ?_⟩; with_reducible rfl)
                    first | done | (have hF := hO; (try simp only [Own, Item.Holds, apartI, CellsAt, Nat.reduceAdd, Nat.zero_add, List.mem_cons, List.not_mem_nil, or_false, forall_eq_or_imp, forall_eq, ne_eq, false_imp_iff, implies_true, and_true] at hF); ((have ⟨d0, d1, d2⟩ := ptAt (HA.out.below hO.base) HX.out.1; have ⟨g0, g1, g2⟩ := ptAt (HA.out.below hO.base) HX.out.2)); refine Out.same ?_; go_simp; all_goals with_reducible rfl)
                  refine Sim.sO (i := 10) (d := some 56) (v := ?_) (hy := ?_) (h := ?_)
                  rotate_left
                  · first | refine Or.inl ⟨by rfl, fun w hO => ?_⟩ | (refine Or.inr ⟨by rfl, ?_⟩; with_reducible rfl)
                    first | done | (refine Out.call (f := 96) (args := ?_) ?_ ?_; rotate_left; (focus (go_simp; all_goals with_reducible rfl)); exact HK2.out _)
                  refine Sim.sP (i := 11) (d := some 57) (h := ?_)
                  refine Sim.sP (i := 12) (d := some 58) (h := ?_)
                  refine Sim.done (by kernel_rfl) (fun w1 hO hX => ?_) _
                  (try simp only [World.size_alloc1, World.size_drew, Nat.reduceAdd] at hO); (try simp only [upd, updI, List.map_cons, List.map_nil, eq_self, if_true, if_false, reduceIte, Nat.add_eq_left, Nat.left_eq_add, Nat.reduceEqDiff, List.set_cons_zero, List.set_cons_succ] at hO)
                  have hF := hO; (try simp only [Own, Item.Holds, apartI, CellsAt, Nat.reduceAdd, Nat.zero_add, List.mem_cons, List.not_mem_nil, or_false, forall_eq_or_imp, forall_eq, ne_eq, false_imp_iff, implies_true, and_true] at hF)
                  all_goals
                    go_wp2
                    go_roundw
                    case rel => first | exact ⟨i + 1, by omega, by go_num, HU.out, hO⟩ | exact ⟨i + 1, by omega, by go_num, HU⟩
                    case measure => simp [intOf]; omega
          · have hil : i < 3 := by omega
            have hi2 : (i : Int) < 3 := by omega
            have hi0 : (0 : Int) ≤ (i : Int) := by omega
            have wi : IntKind.i64.wrap ((i : Int) + 1 - 1) = (i : Int) := by rw [show (i : Int) + 1 - 1 = (i : Int) by omega]; exact IntWalk.i64_in _ (by omega)
            have wi2 : IntKind.i64.wrap (i : Int) = (i : Int) := IntWalk.i64_in _ (by omega)
            have wj : IntKind.i64.wrap ((i : Int) + 1 + 1) = (i : Int) + 1 + 1 := IntWalk.i64_in _ (by omega)
            have hj1 : (i : Int) + 1 < 4 := by omega
            have hj2 : (i : Int) < 4 := by omega
            have hj3 : (0 : Int) ≤ (i : Int) + 1 := by omega
            obtain ⟨x, hx⟩ : ∃ x, l[i + 1]? = some x := ⟨_, List.getElem?_eq_getElem (by have := HN.out; omega)⟩
            obtain ⟨y, hy⟩ : ∃ x, l[i]? = some x := ⟨_, List.getElem?_eq_getElem (by have := HN.out; omega)⟩
            have HX := hid (And.intro hx hy)
            obtain ⟨z1, hz1⟩ : ∃ z, k4 l (i + 1) = z := ⟨_, rfl⟩
            obtain ⟨z2, hz2⟩ : ∃ z, k4 l i = z := ⟨_, rfl⟩
            have HK1 := hid (fun W => keyS12 (show kyP x = z1 by rw [← hz1, k4_at hx]) W)
            have HK2 := hid (fun W => keyS12 (show kyP y = z2 by rw [← hz2, k4_at hy]) W)
            have HZ := hid (And.intro hz1 hz2)
            clear he hx hy hz1 hz2
            by_cases hc : z1 < z2
            · have HE := hid (st_cross HV.out ⟨i, by omega, by rw [HZ.out.1, HZ.out.2]; exact hc⟩)
              go_wp2_with fail
              apply own_code hO
              (repeat (first | (with_reducible exact hO) | (with_reducible apply Own.alloc) | (with_reducible apply Own.drew) | ((with_reducible apply Own.set_at); (focus (show _ ≤ _; omega)))))
              have hG := hF; clear hF; clear hO; intro hO
              (try simp only [World.size_alloc1, World.size_drew, Nat.reduceAdd] at hO); (try simp only [upd, updI, List.map_cons, List.map_nil, eq_self, if_true, if_false, reduceIte, Nat.add_eq_left, Nat.left_eq_add, Nat.reduceEqDiff, List.set_cons_zero, List.set_cons_succ, hG] at hO); clear hG
              refine region_own (X := fun _ => True) [] (by kernel_rfl) (hO) (trivial) (by first | exact XStab.true | exact XStab.rd | exact XStab.rdIf) ?_
              clear hO
              refine Sim.sP (i := 0) (d := some 30) (h := ?_)
              refine Sim.sP (i := 1) (d := some 31) (h := ?_)
              refine Sim.sP (i := 2) (d := some 32) (h := ?_)
              refine Sim.sO (i := 3) (d := some 33) (v := ?_) (hy := ?_) (h := ?_)
              rotate_left
              · first | refine Or.inl ⟨by rfl, fun w hO => ?_⟩ | (refine Or.inr ⟨by rfl, ?_⟩; with_reducible rfl)
                first | done | (have hF := hO; (try simp only [Own, Item.Holds, apartI, CellsAt, Nat.reduceAdd, Nat.zero_add, List.mem_cons, List.not_mem_nil, or_false, forall_eq_or_imp, forall_eq, ne_eq, false_imp_iff, implies_true, and_true] at hF); ((have ⟨d0, d1, d2⟩ := ptAt (HA.out.below hO.base) HX.out.1; have ⟨g0, g1, g2⟩ := ptAt (HA.out.below hO.base) HX.out.2)); refine Out.same ?_; go_simp; all_goals with_reducible rfl)
              refine Sim.sO (i := 4) (d := some 34) (v := ?_) (hy := ?_) (h := ?_)
              rotate_left
              · first | refine Or.inl ⟨by rfl, fun w hO => ?_⟩ | (refine Or.inr ⟨by rfl, ?_⟩; with_reducible rfl)
                first | done | (refine Out.call (f := 96) (args := ?_) ?_ ?_; rotate_left; (focus (go_simp; all_goals with_reducible rfl)); exact HK1.out _)
              refine Sim.sP (i := 5) (d := some 35) (h := ?_)
              refine Sim.sP (i := 6) (d := some 36) (h := ?_)
              refine Sim.sP (i := 7) (d := some 37) (h := ?_)
              refine Sim.sP (i := 8) (d := some 38) (h := ?_)
              refine Sim.sO (i := 9) (d := some 39) (v := ?_) (hy := ?_) (h := ?_)
              rotate_left
              · first | refine Or.inl ⟨by rfl, fun w hO => ?_⟩ | (refine Or.inr ⟨by rfl, ?_⟩; with_reducible rfl)
                first | done | (have hF := hO; (try simp only [Own, Item.Holds, apartI, CellsAt, Nat.reduceAdd, Nat.zero_add, List.mem_cons, List.not_mem_nil, or_false, forall_eq_or_imp, forall_eq, ne_eq, false_imp_iff, implies_true, and_true] at hF); ((have ⟨d0, d1, d2⟩ := ptAt (HA.out.below hO.base) HX.out.1; have ⟨g0, g1, g2⟩ := ptAt (HA.out.below hO.base) HX.out.2)); refine Out.same ?_; go_simp; all_goals with_reducible rfl)
              refine Sim.sO (i := 10) (d := some 40) (v := ?_) (hy := ?_) (h := ?_)
              rotate_left
              · first | refine Or.inl ⟨by rfl, fun w hO => ?_⟩ | (refine Or.inr ⟨by rfl, ?_⟩; with_reducible rfl)
                first | done | (refine Out.call (f := 96) (args := ?_) ?_ ?_; rotate_left; (focus (go_simp; all_goals with_reducible rfl)); exact HK2.out _)
              refine Sim.sP (i := 11) (d := some 41) (h := ?_)
              refine Sim.done (by kernel_rfl) (fun w1 hO hX => ?_) _
              (try simp only [World.size_alloc1, World.size_drew, Nat.reduceAdd] at hO); (try simp only [upd, updI, List.map_cons, List.map_nil, eq_self, if_true, if_false, reduceIte, Nat.add_eq_left, Nat.left_eq_add, Nat.reduceEqDiff, List.set_cons_zero, List.set_cons_succ] at hO)
              have hF := hO; (try simp only [Own, Item.Holds, apartI, CellsAt, Nat.reduceAdd, Nat.zero_add, List.mem_cons, List.not_mem_nil, or_false, forall_eq_or_imp, forall_eq, ne_eq, false_imp_iff, implies_true, and_true] at hF)
              all_goals
                go_wp2
                go_ret
                exact ⟨ret_int HE.out.symm, Own.base (by first | exact hO | (repeat (first | (with_reducible exact hO) | (with_reducible apply Own.alloc) | (with_reducible apply Own.drew) | ((with_reducible apply Own.set_at); (focus (show _ ≤ _; omega))))))⟩
            · have HU := hid (upto_P hcr.out (show ¬ k4 l (i + 1) < k4 l i by rw [HZ.out.1, HZ.out.2]; exact hc))
              go_wp2_with fail
              apply own_code hO
              (repeat (first | (with_reducible exact hO) | (with_reducible apply Own.alloc) | (with_reducible apply Own.drew) | ((with_reducible apply Own.set_at); (focus (show _ ≤ _; omega)))))
              have hG := hF; clear hF; clear hO; intro hO
              (try simp only [World.size_alloc1, World.size_drew, Nat.reduceAdd] at hO); (try simp only [upd, updI, List.map_cons, List.map_nil, eq_self, if_true, if_false, reduceIte, Nat.add_eq_left, Nat.left_eq_add, Nat.reduceEqDiff, List.set_cons_zero, List.set_cons_succ, hG] at hO); clear hG
              refine region_own (X := fun _ => True) [] (by kernel_rfl) (hO) (trivial) (by first | exact XStab.true | exact XStab.rd | exact XStab.rdIf) ?_
              clear hO
              refine Sim.sP (i := 0) (d := some 30) (h := ?_)
              refine Sim.sP (i := 1) (d := some 31) (h := ?_)
              refine Sim.sP (i := 2) (d := some 32) (h := ?_)
              refine Sim.sO (i := 3) (d := some 33) (v := ?_) (hy := ?_) (h := ?_)
              rotate_left
              · first | refine Or.inl ⟨by rfl, fun w hO => ?_⟩ | (refine Or.inr ⟨by rfl, ?_⟩; with_reducible rfl)
                first | done | (have hF := hO; (try simp only [Own, Item.Holds, apartI, CellsAt, Nat.reduceAdd, Nat.zero_add, List.mem_cons, List.not_mem_nil, or_false, forall_eq_or_imp, forall_eq, ne_eq, false_imp_iff, implies_true, and_true] at hF); ((have ⟨d0, d1, d2⟩ := ptAt (HA.out.below hO.base) HX.out.1; have ⟨g0, g1, g2⟩ := ptAt (HA.out.below hO.base) HX.out.2)); refine Out.same ?_; go_simp; all_goals with_reducible rfl)
              refine Sim.sO (i := 4) (d := some 34) (v := ?_) (hy := ?_) (h := ?_)
              rotate_left
              · first | refine Or.inl ⟨by rfl, fun w hO => ?_⟩ | (refine Or.inr ⟨by rfl, ?_⟩; with_reducible rfl)
                first | done | (refine Out.call (f := 96) (args := ?_) ?_ ?_; rotate_left; (focus (go_simp; all_goals with_reducible rfl)); exact HK1.out _)
              refine Sim.sP (i := 5) (d := some 35) (h := ?_)
              refine Sim.sP (i := 6) (d := some 36) (h := ?_)
              refine Sim.sP (i := 7) (d := some 37) (h := ?_)
              refine Sim.sP (i := 8) (d := some 38) (h := ?_)
              refine Sim.sO (i := 9) (d := some 39) (v := ?_) (hy := ?_) (h := ?_)
              rotate_left
              · first | refine Or.inl ⟨by rfl, fun w hO => ?_⟩ | (refine Or.inr ⟨by rfl, ?_⟩; with_reducible rfl)
                first | done | (have hF := hO; (try simp only [Own, Item.Holds, apartI, CellsAt, Nat.reduceAdd, Nat.zero_add, List.mem_cons, List.not_mem_nil, or_false, forall_eq_or_imp, forall_eq, ne_eq, false_imp_iff, implies_true, and_true] at hF); ((have ⟨d0, d1, d2⟩ := ptAt (HA.out.below hO.base) HX.out.1; have ⟨g0, g1, g2⟩ := ptAt (HA.out.below hO.base) HX.out.2)); refine Out.same ?_; go_simp; all_goals with_reducible rfl)
              refine Sim.sO (i := 10) (d := some 40) (v := ?_) (hy := ?_) (h := ?_)
              rotate_left
              · first | refine Or.inl ⟨by rfl, fun w hO => ?_⟩ | (refine Or.inr ⟨by rfl, ?_⟩; with_reducible rfl)
                first | done | (refine Out.call (f := 96) (args := ?_) ?_ ?_; rotate_left; (focus (go_simp; all_goals with_reducible rfl)); exact HK2.out _)
              refine Sim.sP (i := 11) (d := some 41) (h := ?_)
              refine Sim.done (by kernel_rfl) (fun w1 hO hX => ?_) _
              (try simp only [World.size_alloc1, World.size_drew, Nat.reduceAdd] at hO); (try simp only [upd, updI, List.map_cons, List.map_nil, eq_self, if_true, if_false, reduceIte, Nat.add_eq_left, Nat.left_eq_add, Nat.reduceEqDiff, List.set_cons_zero, List.set_cons_succ] at hO)
              have hF := hO; (try simp only [Own, Item.Holds, apartI, CellsAt, Nat.reduceAdd, Nat.zero_add, List.mem_cons, List.not_mem_nil, or_false, forall_eq_or_imp, forall_eq, ne_eq, false_imp_iff, implies_true, and_true] at hF)
              all_goals
                go_wp2
                go_roundw
                case rel => first | exact ⟨i + 1, by omega, by go_num, HU.out, hO⟩ | exact ⟨i + 1, by omega, by go_num, HU⟩
                case measure => simp [intOf]; omega
      · have h4' : ((k : Int) == 4) = false := by simp; omega
        have h4'' : ¬ (k : Int) = 4 := by omega
        have HE := hid (st_voices (l := l) (vo4_len (by rw [HN.out]; exact h4)))
        clear h4
        go_wp2_with fail
        go_ret
        exact ⟨ret_int HE.out.symm, Own.base (by first | exact hO | (repeat (first | (with_reducible exact hO) | (with_reducible apply Own.alloc) | (with_reducible apply Own.drew) | ((with_reducible apply Own.set_at); (focus (show _ ≤ _; omega))))))⟩
    · have hkl : k < n := by omega
      have hkl2 : (k : Int) < n := by omega
      obtain ⟨b, off, rfl, hc1, hc2, hb⟩ := hA (by omega)
      obtain ⟨x, hx⟩ : ∃ x, l[k]? = some x := ⟨_, List.getElem?_eq_getElem (by have := HN.out; omega)⟩
      obtain ⟨d0, d1, d2⟩ := ptAt (HA.out.below hO.base) hx
      cases hp : pvP x
      · have HE := hid (st_voices (vo4_bad (List.mem_of_getElem? hx) hp))
        have HV := hid (fun W => pvS_is W (show pvB x.s x.a x.o = false from hp))
        clear he hx hp
        go_wp2_with (go_at_call 52; apply own_at hO; (repeat (first | (with_reducible exact hO) | (with_reducible apply Own.alloc) | (with_reducible apply Own.drew) | ((with_reducible apply Own.set_at); (focus (show _ ≤ _; omega))))); have hG := hF; clear hF; clear hO; intro hO; refine own_call hO (fun hB => HV.out _) ?_; clear hO; intro w1 hO; (try simp only [World.size_alloc1, World.size_drew, Nat.reduceAdd] at hO); (try simp only [upd, updI, List.map_cons, List.map_nil, eq_self, if_true, if_false, reduceIte, Nat.add_eq_left, Nat.left_eq_add, Nat.reduceEqDiff, List.set_cons_zero, List.set_cons_succ, hG] at hO); clear hG; have hF := hO; (try simp only [Own, Item.Holds, apartI, CellsAt, Nat.reduceAdd, Nat.zero_add, List.mem_cons, List.not_mem_nil, or_false, forall_eq_or_imp, forall_eq, ne_eq, false_imp_iff, implies_true, and_true] at hF))
        go_ret
        exact ⟨ret_int HE.out.symm, Own.base (by first | exact hO | (repeat (first | (with_reducible exact hO) | (with_reducible apply Own.alloc) | (with_reducible apply Own.drew) | ((with_reducible apply Own.set_at); (focus (show _ ≤ _; omega))))))⟩
      · have HV := hid (fun W => pvS_is W (show pvB x.s x.a x.o = true from hp))
        have HB := hid (allP_up hv.out hx hp)
        clear he hx hp
        go_wp2_with (go_at_call 52; apply own_at hO; (repeat (first | (with_reducible exact hO) | (with_reducible apply Own.alloc) | (with_reducible apply Own.drew) | ((with_reducible apply Own.set_at); (focus (show _ ≤ _; omega))))); have hG := hF; clear hF; clear hO; intro hO; refine own_call hO (fun hB => HV.out _) ?_; clear hO; intro w1 hO; (try simp only [World.size_alloc1, World.size_drew, Nat.reduceAdd] at hO); (try simp only [upd, updI, List.map_cons, List.map_nil, eq_self, if_true, if_false, reduceIte, Nat.add_eq_left, Nat.left_eq_add, Nat.reduceEqDiff, List.set_cons_zero, List.set_cons_succ, hG] at hO); clear hG; have hF := hO; (try simp only [Own, Item.Holds, apartI, CellsAt, Nat.reduceAdd, Nat.zero_add, List.mem_cons, List.not_mem_nil, or_false, forall_eq_or_imp, forall_eq, ne_eq, false_imp_iff, implies_true, and_true] at hF))
        go_roundw
        case rel => exact ⟨k + 1, by omega, by go_num, HB.out, by first | exact hO | exact Own.drop hO⟩
        case measure => simp [intOf]; omega

/- What the functions of chapter 12 answer, as contracts. -/
open Go.RowKit

def CSt (g : FuncId) (w : World) : Prop := ∀ (va : Value) (l : List Pt) (W : World), Below w.heap.size w W → SlAt W va l.length 3 (pcC l) → l.length ≤ 1048576 → (∀ x ∈ l, p64s x) →
  Calls Tryd.prog g #[va] W fun e w' => e = .returned (.int .i64 (stZ l)) ∧ Below W.heap.size W w'
def CMv (g : FuncId) (w : World) : Prop := ∀ (va vb : Value) (a b : List Pt) (W : World), Below w.heap.size w W → SlAt W va a.length 3 (pcC a) → SlAt W vb b.length 3 (pcC b) → a.length ≤ 1048576 → b.length ≤ 1048576 → (∀ x ∈ a, p64s x) → (∀ x ∈ b, p64s x) →
  Calls Tryd.prog g #[va, vb] W fun e w' => e = .returned (.int .i64 (mvZ a b)) ∧ Below W.heap.size W w'
def CPa (g : FuncId) (w : World) : Prop := ∀ (va : Value) (ll : List (List Pt)) (W : World), Below w.heap.size w W → StkR W va ll → ll.length ≤ 1048576 → (∀ l ∈ ll, l.length ≤ 1048576) → (∀ l ∈ ll, ∀ x ∈ l, p64s x) →
  Calls Tryd.prog g #[va] W (RowOut 36 2 (paZ ll).length (tnC (paZ ll)) W)
theorem CSt.to {g : FuncId} {w wd : World} (h : CSt g w) (hb : Below w.heap.size w wd) : CSt g wd := fun va l W hW => h va l W (btr hb hW)
theorem CMv.to {g : FuncId} {w wd : World} (h : CMv g w) (hb : Below w.heap.size w wd) : CMv g wd := fun va vb a b W hW => h va vb a b W (btr hb hW)
theorem CPa.to {g : FuncId} {w wd : World} (h : CPa g w) (hb : Below w.heap.size w wd) : CPa g wd := fun va ll W hW => h va ll W (btr hb hW)
theorem CSt.is {g : FuncId} {w : World} (h : CSt g w) {l : List Pt} {n : Nat} {z : Int} (hm : l.length = n) (hn : n ≤ 1048576) (hr : ∀ x ∈ l, p64s x) (hz : stZ l = z) (va : Value) (W : World) (hW : Below w.heap.size w W) (hs : SlAt W va n 3 (pcC l)) :
    Calls Tryd.prog g #[va] W fun e w' => e = .returned (.int .i64 z) ∧ Below W.heap.size W w' := by
  subst hm hz; exact h va l W hW hs hn hr
theorem CMv.is {g : FuncId} {w : World} (h : CMv g w) {a b : List Pt} {n m : Nat} {z : Int} (hn : a.length = n) (hm : b.length = m) (hn9 : n ≤ 1048576) (hm9 : m ≤ 1048576) (hr : ∀ x ∈ a, p64s x) (hr' : ∀ x ∈ b, p64s x) (hz : mvZ a b = z) (va vb : Value) (W : World) (hW : Below w.heap.size w W) (hs : SlAt W va n 3 (pcC a)) (ht : SlAt W vb m 3 (pcC b)) :
    Calls Tryd.prog g #[va, vb] W fun e w' => e = .returned (.int .i64 z) ∧ Below W.heap.size W w' := by
  subst hn hm hz; exact h va vb a b W hW hs ht hn9 hm9 hr hr'
theorem CPa.is {g : FuncId} {w : World} (h : CPa g w) {ll : List (List Pt)} {us : List (Int × Int)} {k : Nat} (hn : ll.length ≤ 1048576) (hle : ∀ l ∈ ll, l.length ≤ 1048576) (hr : ∀ l ∈ ll, ∀ x ∈ l, p64s x) (hu : paZ ll = us) (hk : us.length = k) (va : Value) (W : World) (hW : Below w.heap.size w W) (hs : StkR W va ll) :
    Calls Tryd.prog g #[va] W (RowOut 36 2 k (tnC us) W) := by
  subst hu hk; exact h va ll W hW hs hn hle hr

theorem stS_C (w : World) : CSt 70 w := fun va l W _ hs hn _ => stS_any va l W hs hn

/- Chapter 12 in the model: faults of parts. -/
open Go.RowKit

theorem getD_ll {ll : List (List Pt)} {k : Nat} {l : List Pt} (h : ll[k]? = some l) : ll.getD k [] = l := by rw [List.getD_eq_getElem?_getD, h]; rfl
/-- Chord k with or without faults. -/
theorem pa_first {ll : List (List Pt)} {l : List Pt} {s : Int} (h : ll[0]? = some l) (hs : stZ l = s) : paF ll (0 + 1) = paF ll 0 ++ (if s = 0 then [] else [(((0 : Nat) : Int), s)]) := by
  rw [paF_up]
  unfold faL
  rw [getD_ll h, hs, if_pos (show (0 : Nat) = 0 from rfl), List.append_nil]
theorem pa_next {ll : List (List Pt)} {p : Nat} {l' l : List Pt} {s m : Int} (h' : ll[p]? = some l') (h : ll[p + 1]? = some l) (hs : stZ l = s) (hm : mvZ l' l = m) : paF ll (p + 1 + 1) = paF ll (p + 1) ++ ((if s = 0 then [] else [(((p + 1 : Nat) : Int), s)]) ++ (if m = 0 then [] else [(((p + 1 : Nat) : Int), m)])) := by
  rw [paF_up]
  unfold faL
  rw [getD_ll h, hs, if_neg (show ¬ (p + 1 = 0) by omega), show p + 1 - 1 = p by omega, getD_ll h', hm]
theorem stS_is {va : Value} {l : List Pt} {n : Nat} {s : Int} {w : World} (hn : l.length = n) (h9 : n ≤ 1048576) (hz : stZ l = s) (hs : SlAt w va n 3 (pcC l)) (W : World) (hW : Below w.heap.size w W) :
    Calls Tryd.prog 70 #[va] W fun e w' => e = .returned (.int .i64 s) ∧ Below W.heap.size W w' := by
  subst hn hz; exact stS_any va l W (hs.below hW) h9
/-- What MoveFault of the model answers, wherever it is called. -/
def MvS : Prop := ∀ (va vb : Value) (a b : List Pt) (W : World), SlAt W va a.length 3 (pcC a) → SlAt W vb b.length 3 (pcC b) → a.length ≤ 1048576 → b.length ≤ 1048576 →
  Calls Tryd.prog 71 #[va, vb] W fun e w' => e = .returned (.int .i64 (mvZ a b)) ∧ Below W.heap.size W w'
theorem mvS_is (hMv : MvS) {va vb : Value} {a b : List Pt} {n m : Nat} {z : Int} {w : World} (hn : a.length = n) (hm : b.length = m) (hn9 : n ≤ 1048576) (hm9 : m ≤ 1048576) (hz : mvZ a b = z) (ha : SlAt w va n 3 (pcC a)) (hb : SlAt w vb m 3 (pcC b)) (W : World) (hW : Below w.heap.size w W) :
    Calls Tryd.prog 71 #[va, vb] W fun e w' => e = .returned (.int .i64 z) ∧ Below W.heap.size W w' := by
  subst hn hm hz; exact hMv va vb a b W (ha.below hW) (hb.below hW) hn9 hm9
end Go.Proofs.YtfdglkiehkilnaaDoor
