/- Chapter 5 in the program: ticks of a voice; the note at a tick. -/
import Derived.Test.YtcgcnkddgihkpaaDoorWalks5A
import Derived.Test.YtcgcnkddgihkpaaDoorWalks5N
namespace Go.Proofs.YtcgcnkddgihkpaaDoor
set_option linter.unusedSimpArgs false
set_option linter.unusedVariables false
set_option maxRecDepth 8000
open Go.RowKit

set_option maxHeartbeats 4000000 in
theorem ptI_any (va : Value) (v : List Nt) (n : Nat) (w : World) (hnl : v.length = n) (ha : SlAt w va n 6 (vcC v)) (hb : ∀ j, 0 ≤ sumT (v.take j) ∧ sumT (v.take j) ≤ 46080) (hp : ∀ (j : Nat) (x : Nt), v[j]? = some x → 0 ≤ x.t ∧ x.t ≤ 768) :
    Calls Tryd.prog 64 #[va] w fun e w' => e = .returned (.int .i64 (sumT v)) ∧ Below w.heap.size w w' := by
  have hO := Own.start w
  have hF := True.intro
  obtain ⟨A, c, rfl, nb, hA⟩ := ha.open
  have HA := hid ha
  have HN := hid hnl
  have HB := hid hb
  have HP := hid hp
  clear ha hnl hb hp
  go_enter Tryd.func64, Tryd.ntmps64
  go_wp2
  go_loopw [3, 8] (fun s t wr => ∃ j : Nat, j ≤ n ∧ t = .int .i64 j ∧ s = .int .i64 (sumT (v.take j)) ∧ Own w.heap.size (Below w.heap.size w) wr []) (fun _ t _ => n - (intOf t).toNat)
  case atStart => exact ⟨0, by omega, rfl, rfl, hO⟩
  case round =>
    clear hO hF
    obtain ⟨j, hj, rfl, rfl, hO⟩ := hrel
    have hF := True.intro
    by_cases he : j = n
    · subst he
      have e1 : sumT (v.take j) = sumT v := by rw [← HN.out, List.take_length]
      rw [e1]
      go_wp2
      go_ret
      exact ⟨rfl, hO.base⟩
    · have hlt : j < n := by omega
      have hlt2 : (j : Int) < n := by omega
      obtain ⟨b, off, rfl, hc1, hc2, hb⟩ := hA (by omega)
      obtain ⟨x, hx⟩ : ∃ x, v[j]? = some x := ⟨_, List.getElem?_eq_getElem (by have := HN.out; omega)⟩
      obtain ⟨d0, d1, d2, d3, d4, d5⟩ := noteAt (HA.out.below hO.base) hx
      have xb := HP.out j x hx
      have sb := HB.out j
      have HS := hid (sumT_up hx)
      obtain ⟨s, hs⟩ : ∃ s, sumT (v.take j) = s := ⟨_, rfl⟩
      rw [hs] at sb HS
      rw [hs]
      clear he hx hs
      go_wp2
      go_roundw
      case rel => exact ⟨j + 1, by omega, by go_num, by rw [HS.out], Own.drop (by (repeat (first | (with_reducible exact hO) | (with_reducible apply Own.alloc) | (with_reducible apply Own.drew) | ((with_reducible apply Own.set_at); (focus (show _ ≤ _; omega))))))⟩
      case measure => simp [intOf]; omega

set_option maxHeartbeats 4000000 in
theorem vtI_any (va : Value) (v : List Nt) (w : World) (ha : SlAt w va v.length 6 (vcC v)) (hn : v.length ≤ 1048576) :
    Calls Tryd.prog 26 #[va] w fun e w' => e = .returned (.int .i64 (vtZ v)) ∧ Below w.heap.size w w' := by
  have hO := Own.start w
  have hF := True.intro
  have HA := hid ha
  cases hv : voB v
  · have HE := hid (show vtZ v = -1 by unfold vtZ; rw [hv]; rfl)
    have HV := hid (voI_is rfl ha hn hv)
    clear ha hv
    go_enter Tryd.func26, Tryd.ntmps26
    go_wp2_with (go_at_call 25; apply own_at hO; (repeat (first | (with_reducible exact hO) | (with_reducible apply Own.alloc) | (with_reducible apply Own.drew) | ((with_reducible apply Own.set_at); (focus (show _ ≤ _; omega))))); have hG := hF; clear hF; clear hO; intro hO; refine own_call hO (fun hB => HV.out _ hB) ?_; clear hO; intro w1 hO; (try simp only [World.size_alloc1, World.size_drew, Nat.reduceAdd] at hO); (try simp only [upd, updI, List.map_cons, List.map_nil, eq_self, if_true, if_false, reduceIte, Nat.add_eq_left, Nat.left_eq_add, Nat.reduceEqDiff, List.set_cons_zero, List.set_cons_succ, hG] at hO); clear hG; have hF := hO; (try simp only [Own, Item.Holds, apartI, CellsAt, Nat.reduceAdd, Nat.zero_add, List.mem_cons, List.not_mem_nil, or_false, forall_eq_or_imp, forall_eq, ne_eq, false_imp_iff, implies_true, and_true] at hF))
    go_ret
    exact ⟨ret_int HE.out.symm, Own.base (by (repeat (first | (with_reducible exact hO) | (with_reducible apply Own.alloc) | (with_reducible apply Own.drew) | ((with_reducible apply Own.set_at); (focus (show _ ≤ _; omega))))))⟩
  · have HE := hid (show vtZ v = sumT v by unfold vtZ; rw [hv]; rfl)
    have HV := hid (voI_is rfl ha hn hv)
    have HT := hid (fun W (hW : Below w.heap.size w W) => ptI_any va v _ W rfl (ha.below hW) (sumT_bd hv) (fun j x hx => by have := vo_at hv hx; omega))
    clear ha hv
    go_enter Tryd.func26, Tryd.ntmps26
    go_wp2_with (first | (go_at_call 25; apply own_at hO; (repeat (first | (with_reducible exact hO) | (with_reducible apply Own.alloc) | (with_reducible apply Own.drew) | ((with_reducible apply Own.set_at); (focus (show _ ≤ _; omega))))); have hG := hF; clear hF; clear hO; intro hO; refine own_call hO (fun hB => HV.out _ hB) ?_; clear hO; intro w1 hO; (try simp only [World.size_alloc1, World.size_drew, Nat.reduceAdd] at hO); (try simp only [upd, updI, List.map_cons, List.map_nil, eq_self, if_true, if_false, reduceIte, Nat.add_eq_left, Nat.left_eq_add, Nat.reduceEqDiff, List.set_cons_zero, List.set_cons_succ, hG] at hO); clear hG; have hF := hO; (try simp only [Own, Item.Holds, apartI, CellsAt, Nat.reduceAdd, Nat.zero_add, List.mem_cons, List.not_mem_nil, or_false, forall_eq_or_imp, forall_eq, ne_eq, false_imp_iff, implies_true, and_true] at hF)) | (go_at_call 64; apply own_at hO; (repeat (first | (with_reducible exact hO) | (with_reducible apply Own.alloc) | (with_reducible apply Own.drew) | ((with_reducible apply Own.set_at); (focus (show _ ≤ _; omega))))); have hG := hF; clear hF; clear hO; intro hO; refine own_call hO (fun hB => HT.out _ hB) ?_; clear hO; intro w1 hO; (try simp only [World.size_alloc1, World.size_drew, Nat.reduceAdd] at hO); (try simp only [upd, updI, List.map_cons, List.map_nil, eq_self, if_true, if_false, reduceIte, Nat.add_eq_left, Nat.left_eq_add, Nat.reduceEqDiff, List.set_cons_zero, List.set_cons_succ, hG] at hO); clear hG; have hF := hO; (try simp only [Own, Item.Holds, apartI, CellsAt, Nat.reduceAdd, Nat.zero_add, List.mem_cons, List.not_mem_nil, or_false, forall_eq_or_imp, forall_eq, ne_eq, false_imp_iff, implies_true, and_true] at hF)))
    go_ret
    exact ⟨ret_int HE.out.symm, Own.base (by (repeat (first | (with_reducible exact hO) | (with_reducible apply Own.alloc) | (with_reducible apply Own.drew) | ((with_reducible apply Own.set_at); (focus (show _ ≤ _; omega))))))⟩

theorem naL_up {v : List Nt} {j : Nat} {x : Nt} {tick : Int} (hd : v.drop j = x :: v.drop (j + 1)) (h : ¬ tick < sumT (v.take j) + x.t) : naL j (v.drop j) (tick - sumT (v.take j)) = naL (j + 1) (v.drop (j + 1)) (tick - (sumT (v.take j) + x.t)) := by
  rw [hd, naL, if_neg (by omega), show tick - (sumT (v.take j) + x.t) = tick - sumT (v.take j) - x.t by omega]

theorem vtI_C (w : World) : CInt 26 vtZ w := fun va v W _ hs hn => vtI_any va v W hs hn