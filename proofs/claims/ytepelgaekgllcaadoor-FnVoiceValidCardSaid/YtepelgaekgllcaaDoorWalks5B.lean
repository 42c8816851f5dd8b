/- Chapter 5 in the program: valid voices. -/
import Derived.Test.YtepelgaekgllcaaDoorWalks5A
namespace Go.Proofs.YtepelgaekgllcaaDoor
set_option linter.unusedSimpArgs false
set_option linter.unusedVariables false
open Go.RowKit

theorem ld_no {x : Nt} {l : List Nt} (h : ldB (x :: l) = false) : tieB (x :: l) = false := by rw [tie_ld, h]; simp
theorem ld_yes {x : Nt} {l : List Nt} (h1 : nvB x = true) (h : ldB (x :: l) = true) : tieB (x :: l) = tieB l := by rw [tie_ld, h1, h]; simp

set_option maxHeartbeats 4000000 in
theorem voI_any (va : Value) (v : List Nt) (w : World) (ha : SlAt w va v.length 6 (vcC v)) (hn : v.length ≤ 1048576) :
    Calls Tryd.prog 17 #[va] w fun e w' => e = .returned (.bool (voB v)) ∧ Below w.heap.size w w' := by
  have hO := Own.start w
  have hF := True.intro
  obtain ⟨A, c, rfl, nb, hA⟩ := ha.open
  have HA := hid ha
  clear ha
  obtain ⟨n, hnl⟩ : ∃ n, v.length = n := ⟨_, rfl⟩
  have HN := hid hnl
  rw [hnl] at hn nb hA HA
  rw [hnl]
  clear hnl
  by_cases h60 : 60 < n
  · have h60' : (60 : Int) < n := by omega
    have HE := hid (show voB v = false by
      cases hv : voB v with
      | false => rfl
      | true => have := (voB_iff.1 hv).2; have := HN.out; omega)
    go_enter Tryd.func17, Tryd.ntmps17
    go_wp2
    go_ret
    exact ⟨ret_bool HE.out.symm, hO.base⟩
  have h60' : (n : Int) ≤ 60 := by omega
  go_enter Tryd.func17, Tryd.ntmps17
  go_wp2
  go_loopw [10] (fun t wr => ∃ j : Nat, j ≤ n ∧ t = .int .i64 j ∧ Hid (tieB v = tieB (v.drop j)) ∧ Own w.heap.size (Below w.heap.size w) wr []) (fun t _ => n - (intOf t).toNat)
  case atStart => exact ⟨0, by omega, rfl, rfl, hO⟩
  case round =>
    clear hO
    obtain ⟨j, hj, rfl, HT, hO⟩ := hrel
    by_cases he : j = n
    · subst he
      have HE := hid (show voB v = true from voB_iff.2 ⟨by rw [HT.out, ← HN.out, List.drop_length]; rfl, by have := HN.out; omega⟩)
      go_wp2
      go_ret
      exact ⟨ret_bool HE.out.symm, hO.base⟩
    · have hlt : j < n := by omega
      have hlt2 : (j : Int) < n := by omega
      have j0 : (0 : Int) ≤ (j : Int) := by omega
      have j1 : (0 : Int) ≤ (j : Int) + 1 := by omega
      obtain ⟨b, off, rfl, hc1, hc2, hb⟩ := hA (by omega)
      have hjv : j < v.length := by have := HN.out; omega
      obtain ⟨x, hx⟩ : ∃ x, v[j]? = some x := ⟨_, List.getElem?_eq_getElem hjv⟩
      have hd : v.drop j = x :: v.drop (j + 1) := by
        rw [List.drop_eq_getElem_cons hjv]; congr 1
        rw [List.getElem?_eq_getElem hjv] at hx; exact Option.some.inj hx
      have HD := hid hd
      obtain ⟨d0, d1, d2, d3, d4, d5⟩ := noteAt (HA.out.below hO.base) hx
      have hF := True.intro
      cases hnv : nvB x
      · have HE := hid (show voB v = false by unfold voB; rw [HT.out, HD.out, tie_no1 hnv]; rfl)
        have HV := hid (fun W => nvI_any x W)
        rw [hnv] at HV
        clear he hx hd hjv hnv
        go_wp2_with (go_at_call 13; apply own_at hO; (repeat (first | (with_reducible exact hO) | (with_reducible apply Own.alloc) | (with_reducible apply Own.drew) | ((with_reducible apply Own.set_at); (focus (show _ ≤ _; omega))))); have hG := hF; clear hF; clear hO; intro hO; refine own_call hO (fun hB => HV.out _) ?_; clear hO; intro w1 hO; (try simp only [World.size_alloc1, World.size_drew, Nat.reduceAdd] at hO); (try simp only [upd, updI, List.map_cons, List.map_nil, eq_self, if_true, if_false, reduceIte, Nat.add_eq_left, Nat.left_eq_add, Nat.reduceEqDiff, List.set_cons_zero, List.set_cons_succ, hG] at hO); clear hG; have hF := hO; (try simp only [Own, Item.Holds, apartI, CellsAt, Nat.reduceAdd, Nat.zero_add, List.mem_cons, List.not_mem_nil, or_false, forall_eq_or_imp, forall_eq, ne_eq, false_imp_iff, implies_true, and_true] at hF))
        go_ret
        exact ⟨ret_bool HE.out.symm, Own.base (by (repeat (first | (with_reducible exact hO) | (with_reducible apply Own.alloc) | (with_reducible apply Own.drew) | ((with_reducible apply Own.set_at); (focus (show _ ≤ _; omega))))))⟩
      · have HV := hid (fun W => nvI_any x W)
        rw [hnv] at HV
        obtain ⟨g, hg⟩ : ∃ g, ldB (x :: v.drop (j + 1)) = g := ⟨_, rfl⟩
        have HL := hid (fun W (hW : Below w.heap.size w W) => show Calls Tryd.prog 43 #[.slice (some ⟨b, off + j * 6, none⟩) (n - j) (c - j)] W fun e w' => e = .returned (.bool g) ∧ Below W.heap.size W w' from by
          have hs := slAt_drop (HA.out.below hW) (m := j) (by omega)
          rw [hd] at hs
          have := ldI_any _ x (v.drop (j + 1)) (n - j) W (by rw [← hd, List.length_drop]; have := HN.out; omega) hs (by omega)
          rwa [hg] at this)
        have q5 : (j : Int) ≤ n := by omega
        have q6 : (j : Int) ≤ c := by omega
        have q7 : ¬ c = j := by omega
        have HG := hid hg
        have HNV := hid hnv
        clear he hx hd hjv hnv hg nb hn
        cases g
        · have HE := hid (show voB v = false by unfold voB; rw [HT.out, HD.out, ld_no HG.out]; rfl)
          go_wp2_with (first | (go_at_call 13; apply own_at hO; (repeat (first | (with_reducible exact hO) | (with_reducible apply Own.alloc) | (with_reducible apply Own.drew) | ((with_reducible apply Own.set_at); (focus (show _ ≤ _; omega))))); have hG := hF; clear hF; clear hO; intro hO; refine own_call hO (fun hB => HV.out _) ?_; clear hO; intro w1 hO; (try simp only [World.size_alloc1, World.size_drew, Nat.reduceAdd] at hO); (try simp only [upd, updI, List.map_cons, List.map_nil, eq_self, if_true, if_false, reduceIte, Nat.add_eq_left, Nat.left_eq_add, Nat.reduceEqDiff, List.set_cons_zero, List.set_cons_succ, hG] at hO); clear hG; have hF := hO; (try simp only [Own, Item.Holds, apartI, CellsAt, Nat.reduceAdd, Nat.zero_add, List.mem_cons, List.not_mem_nil, or_false, forall_eq_or_imp, forall_eq, ne_eq, false_imp_iff, implies_true, and_true] at hF)) | (go_at_call 43; apply own_at hO; (repeat (first | (with_reducible exact hO) | (with_reducible apply Own.alloc) | (with_reducible apply Own.drew) | ((with_reducible apply Own.set_at); (focus (show _ ≤ _; omega))))); have hG := hF; clear hF; clear hO; intro hO; refine own_call hO (fun hB => HL.out _ hB) ?_; clear hO; intro w1 hO; (try simp only [World.size_alloc1, World.size_drew, Nat.reduceAdd] at hO); (try simp only [upd, updI, List.map_cons, List.map_nil, eq_self, if_true, if_false, reduceIte, Nat.add_eq_left, Nat.left_eq_add, Nat.reduceEqDiff, List.set_cons_zero, List.set_cons_succ, hG] at hO); clear hG; have hF := hO; (try simp only [Own, Item.Holds, apartI, CellsAt, Nat.reduceAdd, Nat.zero_add, List.mem_cons, List.not_mem_nil, or_false, forall_eq_or_imp, forall_eq, ne_eq, false_imp_iff, implies_true, and_true] at hF)))
          go_ret
          exact ⟨ret_bool HE.out.symm, Own.base (by (repeat (first | (with_reducible exact hO) | (with_reducible apply Own.alloc) | (with_reducible apply Own.drew) | ((with_reducible apply Own.set_at); (focus (show _ ≤ _; omega))))))⟩
        · have HE := hid (show tieB v = tieB (v.drop (j + 1)) by rw [HT.out, HD.out, ld_yes HNV.out HG.out])
          go_wp2_with (first | (go_at_call 13; apply own_at hO; (repeat (first | (with_reducible exact hO) | (with_reducible apply Own.alloc) | (with_reducible apply Own.drew) | ((with_reducible apply Own.set_at); (focus (show _ ≤ _; omega))))); have hG := hF; clear hF; clear hO; intro hO; refine own_call hO (fun hB => HV.out _) ?_; clear hO; intro w1 hO; (try simp only [World.size_alloc1, World.size_drew, Nat.reduceAdd] at hO); (try simp only [upd, updI, List.map_cons, List.map_nil, eq_self, if_true, if_false, reduceIte, Nat.add_eq_left, Nat.left_eq_add, Nat.reduceEqDiff, List.set_cons_zero, List.set_cons_succ, hG] at hO); clear hG; have hF := hO; (try simp only [Own, Item.Holds, apartI, CellsAt, Nat.reduceAdd, Nat.zero_add, List.mem_cons, List.not_mem_nil, or_false, forall_eq_or_imp, forall_eq, ne_eq, false_imp_iff, implies_true, and_true] at hF)) | (go_at_call 43; apply own_at hO; (repeat (first | (with_reducible exact hO) | (with_reducible apply Own.alloc) | (with_reducible apply Own.drew) | ((with_reducible apply Own.set_at); (focus (show _ ≤ _; omega))))); have hG := hF; clear hF; clear hO; intro hO; refine own_call hO (fun hB => HL.out _ hB) ?_; clear hO; intro w1 hO; (try simp only [World.size_alloc1, World.size_drew, Nat.reduceAdd] at hO); (try simp only [upd, updI, List.map_cons, List.map_nil, eq_self, if_true, if_false, reduceIte, Nat.add_eq_left, Nat.left_eq_add, Nat.reduceEqDiff, List.set_cons_zero, List.set_cons_succ, hG] at hO); clear hG; have hF := hO; (try simp only [Own, Item.Holds, apartI, CellsAt, Nat.reduceAdd, Nat.zero_add, List.mem_cons, List.not_mem_nil, or_false, forall_eq_or_imp, forall_eq, ne_eq, false_imp_iff, implies_true, and_true] at hF)))
          go_roundw
          case rel => exact ⟨j + 1, by omega, by go_num, HE.out, Own.drop (by (repeat (first | (with_reducible exact hO) | (with_reducible apply Own.alloc) | (with_reducible apply Own.drew) | ((with_reducible apply Own.set_at); (focus (show _ ≤ _; omega))))))⟩
          case measure => simp [intOf]; omega

theorem voI_C (w : World) : CBool 17 voB w := fun va v W _ hs hn => voI_any va v W hs hn
theorem voI_is {va : Value} {v : List Nt} {w : World} {n : Nat} {b : Bool} (hn : v.length = n) (ha : SlAt w va n 6 (vcC v)) (hl : n ≤ 1048576) (h : voB v = b) (W : World) (hW : Below w.heap.size w W) :
    Calls Tryd.prog 17 #[va] W fun e w' => e = .returned (.bool b) ∧ Below W.heap.size W w' := by
  subst hn h
  exact voI_any va v W (ha.below hW) hl
end Go.Proofs.YtepelgaekgllcaaDoor
