/- Chapter 16 in the program: CanonOf. -/
import Derived.Test.YtmkhpafcgobfhaaDoorPure16B
import Derived.Test.YtmkhpafcgobfhaaDoorWalks5E
import Derived.Test.YtmkhpafcgobfhaaDoorCon16
import Derived.Test.YtmkhpafcgobfhaaDoorCon5H
namespace Go.Proofs.YtmkhpafcgobfhaaDoor
set_option linter.unusedSimpArgs false
set_option linter.unusedVariables false
set_option maxRecDepth 8000
open Go.RowKit

theorem shI16 {va : Value} {v u : List Nt} {n k : Nat} {st ha : Int} {b : Bool} {w : World} (hT : TabH w) (hl : v.length = n) (hs : SlAt w va n 6 (vcC v)) (hn : n ≤ 1048576) (r1 : r64 st) (r2 : r64 ha) (hu : shL v st ha = u) (hk : u.length = k) (hb : shB v st ha = b) (W : World) (hW : Below w.heap.size w W) :
    Calls Tryd.prog 26 #[va, .agg #[.int .i64 st, .int .i64 ha]] W (RowOutB 53 6 k (vcC u) b W) := by
  subst hl hu hk hb; exact svI_any va v st ha W (hs.below hW) hn (hT.below hW) r1 r2
theorem nvI16 {d : Int} {b : Bool} (h : inB d 1 768 = b) (W : World) :
    Calls Tryd.prog 63 #[.agg #[.bool true, .int .i64 0, .int .i64 0, .int .i64 0, .int .i64 d, .bool false]] W fun e w' => e = .returned (.bool b) ∧ Below W.heap.size W w' := by
  have e : nvB (rsN d) = b := by
    rw [← h, Bool.eq_iff_iff, nvB_iff, inB_iff]
    exact ⟨fun g => g.2.1, fun g => ⟨fun _ => ⟨rfl, rfl, rfl, rfl⟩, g, show pvB 0 0 0 = true by decide⟩⟩
  have := nvI_any (rsN d) W
  rw [e] at this
  exact this
theorem one_vcI (v : List Nt) : ∀ u ∈ vcC v, u.oneCell' = true := by
  intro u hu
  obtain ⟨x, _, hx⟩ := List.mem_flatMap.1 hu
  exact one6 u hx

set_option maxRecDepth 20000 in
set_option maxHeartbeats 4000000 in
theorem cnoI_any (va : Value) (v : List Nt) (d st ha : Int) (w : World) (hT : TabH w) (hs : SlAt w va v.length 6 (vcC v)) (hn : v.length ≤ 1048576) (rs : r64 st) (rh : r64 ha) :
    Calls Tryd.prog 29 #[va, .int .i64 d, .agg #[.int .i64 st, .int .i64 ha]] w (RowOutB 53 6 (caL v d st ha).length (vcC (caL v d st ha)) (caB v d st ha) w) := by
  have hO := Own.start w
  have hF := True.intro
  obtain ⟨i0, hi0, hz0, hz1, hz2⟩ := info_parts infoN
  obtain ⟨A, ca, rfl, nb, _⟩ := hs.open
  obtain ⟨u, hu⟩ : ∃ u, shL v st ha = u := ⟨_, rfl⟩
  obtain ⟨k, hk⟩ : ∃ k, u.length = k := ⟨_, rfl⟩
  obtain ⟨b1, h1⟩ : ∃ b, shB v st ha = b := ⟨_, rfl⟩
  obtain ⟨b2, h2⟩ : ∃ b, inB d 1 768 = b := ⟨_, rfl⟩
  have HSH := hid (fun W (hW : Below w.heap.size w W) => shI16 hT rfl hs hn rs rh hu hk h1 W hW)
  have HIN := hid (fun W => nvI16 h2 W)
  have HB := hid (show caB v d st ha = (b1 && (b2 && decide (v.length ≠ 60))) by unfold caB; rw [h1, h2])
  have HL := hid (show caB v d st ha = true → caL v d st ha = rsN d :: u from fun h => by unfold caL; rw [if_pos h, hu])
  have HV := hid (show b1 = true → v.length ≤ 60 ∧ k = v.length from fun h => ⟨(voB_iff.1 (shB_iff.1 (h1.trans h)).1).2, by rw [← hk, ← hu]; unfold shL; rw [if_pos (h1.trans h)]; simp⟩)
  have hku : k ≤ v.length := by rw [← hk, ← hu]; unfold shL; split <;> simp
  have HNO := hid (fun h => ca_no (v := v) (d := d) (st := st) (ha := ha) h)
  obtain ⟨n, hnl⟩ : ∃ n, v.length = n := ⟨_, rfl⟩
  rw [hnl] at HSH HB HV hku nb ⊢
  have HK := hid hk
  clear hs hu hk h1 h2 hn hnl hT
  cases b1
  · have HC := hid (show caB v d st ha = false by rw [HB.out]; rfl)
    go_enter Tryd.func29, Tryd.ntmps29
    go_wp2_with (go_at_call 26; apply own_at hO; (repeat (first | (with_reducible exact hO) | (with_reducible apply Own.alloc) | (with_reducible apply Own.drew) | ((with_reducible apply Own.set_at); (focus (show _ ≤ _; omega))))); have hG := hF; clear hF; clear hO; intro hO; refine own_call_rowB hO (fun hB => HSH.out _ hB) ?_; clear hO; intro v w1 hO; (try simp only [World.size_alloc1, World.size_drew, Nat.reduceAdd] at hO); (try simp only [upd, updI, List.map_cons, List.map_nil, eq_self, if_true, if_false, reduceIte, Nat.add_eq_left, Nat.left_eq_add, Nat.reduceEqDiff, List.set_cons_zero, List.set_cons_succ, hG] at hO); clear hG; have hF := hO; (try simp only [Own, Item.Holds, apartI, CellsAt, Nat.reduceAdd, Nat.zero_add, List.mem_cons, List.not_mem_nil, or_false, forall_eq_or_imp, forall_eq, ne_eq, false_imp_iff, implies_true, and_true] at hF))
    apply own_end hO
    (repeat (first | (with_reducible exact hO) | (with_reducible apply Own.alloc) | (with_reducible apply Own.drew) | ((with_reducible apply Own.set_at); (focus (show _ ≤ _; omega)))))
    have hG := hF; clear hF; clear hO; intro hO
    refine own_ret (v := .tuple #[.slice none 0 0, .bool false]) hO ?_ rfl (fun hO => (by rw [HNO.out HC.out, HC.out]; exact ⟨_, rfl, ⟨by simp [vcC], .inl ⟨rfl, rfl⟩⟩, hO.base⟩))
    clear hO; intro w1 hO
    (try simp only [World.size_alloc1, World.size_drew, Nat.reduceAdd] at hO); (try simp only [upd, updI, List.map_cons, List.map_nil, eq_self, if_true, if_false, reduceIte, Nat.add_eq_left, Nat.left_eq_add, Nat.reduceEqDiff, List.set_cons_zero, List.set_cons_succ, hG] at hO); clear hG
    have hF := hO; (try simp only [Own, Item.Holds, apartI, CellsAt, Nat.reduceAdd, Nat.zero_add, List.mem_cons, List.not_mem_nil, or_false, forall_eq_or_imp, forall_eq, ne_eq, false_imp_iff, implies_true, and_true] at hF)
    simp [results, Tryd.results29, go_sem, hF]
  · cases b2
    · have HC := hid (show caB v d st ha = false by rw [HB.out]; rfl)
      go_enter Tryd.func29, Tryd.ntmps29
      go_wp2_with (first | (go_at_call 26; apply own_at hO; (repeat (first | (with_reducible exact hO) | (with_reducible apply Own.alloc) | (with_reducible apply Own.drew) | ((with_reducible apply Own.set_at); (focus (show _ ≤ _; omega))))); have hG := hF; clear hF; clear hO; intro hO; refine own_call_rowB hO (fun hB => HSH.out _ hB) ?_; clear hO; intro v w1 hO; (try simp only [World.size_alloc1, World.size_drew, Nat.reduceAdd] at hO); (try simp only [upd, updI, List.map_cons, List.map_nil, eq_self, if_true, if_false, reduceIte, Nat.add_eq_left, Nat.left_eq_add, Nat.reduceEqDiff, List.set_cons_zero, List.set_cons_succ, hG] at hO); clear hG; have hF := hO; (try simp only [Own, Item.Holds, apartI, CellsAt, Nat.reduceAdd, Nat.zero_add, List.mem_cons, List.not_mem_nil, or_false, forall_eq_or_imp, forall_eq, ne_eq, false_imp_iff, implies_true, and_true] at hF)) | (go_at_call 63; apply own_at hO; (repeat (first | (with_reducible exact hO) | (with_reducible apply Own.alloc) | (with_reducible apply Own.drew) | ((with_reducible apply Own.set_at); (focus (show _ ≤ _; omega))))); have hG := hF; clear hF; clear hO; intro hO; refine own_call hO (fun hB => HIN.out _) ?_; clear hO; intro w1 hO; (try simp only [World.size_alloc1, World.size_drew, Nat.reduceAdd] at hO); (try simp only [upd, updI, List.map_cons, List.map_nil, eq_self, if_true, if_false, reduceIte, Nat.add_eq_left, Nat.left_eq_add, Nat.reduceEqDiff, List.set_cons_zero, List.set_cons_succ, hG] at hO); clear hG; have hF := hO; (try simp only [Own, Item.Holds, apartI, CellsAt, Nat.reduceAdd, Nat.zero_add, List.mem_cons, List.not_mem_nil, or_false, forall_eq_or_imp, forall_eq, ne_eq, false_imp_iff, implies_true, and_true] at hF)))
      apply own_end hO
      (repeat (first | (with_reducible exact hO) | (with_reducible apply Own.alloc) | (with_reducible apply Own.drew) | ((with_reducible apply Own.set_at); (focus (show _ ≤ _; omega)))))
      have hG := hF; clear hF; clear hO; intro hO
      refine own_ret (v := .tuple #[.slice none 0 0, .bool false]) hO ?_ rfl (fun hO => (by rw [HNO.out HC.out, HC.out]; exact ⟨_, rfl, ⟨by simp [vcC], .inl ⟨rfl, rfl⟩⟩, hO.base⟩))
      clear hO; intro w1 hO
      (try simp only [World.size_alloc1, World.size_drew, Nat.reduceAdd] at hO); (try simp only [upd, updI, List.map_cons, List.map_nil, eq_self, if_true, if_false, reduceIte, Nat.add_eq_left, Nat.left_eq_add, Nat.reduceEqDiff, List.set_cons_zero, List.set_cons_succ, hG] at hO); clear hG
      have hF := hO; (try simp only [Own, Item.Holds, apartI, CellsAt, Nat.reduceAdd, Nat.zero_add, List.mem_cons, List.not_mem_nil, or_false, forall_eq_or_imp, forall_eq, ne_eq, false_imp_iff, implies_true, and_true] at hF)
      simp [results, Tryd.results29, go_sem, hF]
    · obtain ⟨hn60, hkn⟩ := HV.out rfl
      subst hkn
      by_cases h60 : k = 60
      · have HC := hid (show caB v d st ha = false by rw [HB.out]; simp [h60])
        subst h60
        go_enter Tryd.func29, Tryd.ntmps29
        go_wp2_with fail
        (go_at_call 26; apply own_at hO; (repeat (first | (with_reducible exact hO) | (with_reducible apply Own.alloc) | (with_reducible apply Own.drew) | ((with_reducible apply Own.set_at); (focus (show _ ≤ _; omega))))); have hG := hF; clear hF; clear hO; intro hO; refine own_call_rowB hO (fun hB => HSH.out _ hB) ?_; clear hO; intro v w1 hO; (try simp only [World.size_alloc1, World.size_drew, Nat.reduceAdd] at hO); (try simp only [upd, updI, List.map_cons, List.map_nil, eq_self, if_true, if_false, reduceIte, Nat.add_eq_left, Nat.left_eq_add, Nat.reduceEqDiff, List.set_cons_zero, List.set_cons_succ, hG] at hO); clear hG; have hF := hO; (try simp only [Own, Item.Holds, apartI, CellsAt, Nat.reduceAdd, Nat.zero_add, List.mem_cons, List.not_mem_nil, or_false, forall_eq_or_imp, forall_eq, ne_eq, false_imp_iff, implies_true, and_true] at hF))
        obtain ⟨A9, c9, hv9⟩ := (SlAt.of_row hO.1.1).form
        subst hv9
        go_wp2_with (go_at_call 63; apply own_at hO; (repeat (first | (with_reducible exact hO) | (with_reducible apply Own.alloc) | (with_reducible apply Own.drew) | ((with_reducible apply Own.set_at); (focus (show _ ≤ _; omega))))); have hG := hF; clear hF; clear hO; intro hO; refine own_call hO (fun hB => HIN.out _) ?_; clear hO; intro w1 hO; (try simp only [World.size_alloc1, World.size_drew, Nat.reduceAdd] at hO); (try simp only [upd, updI, List.map_cons, List.map_nil, eq_self, if_true, if_false, reduceIte, Nat.add_eq_left, Nat.left_eq_add, Nat.reduceEqDiff, List.set_cons_zero, List.set_cons_succ, hG] at hO); clear hG; have hF := hO; (try simp only [Own, Item.Holds, apartI, CellsAt, Nat.reduceAdd, Nat.zero_add, List.mem_cons, List.not_mem_nil, or_false, forall_eq_or_imp, forall_eq, ne_eq, false_imp_iff, implies_true, and_true] at hF))
        apply own_end hO
        (repeat (first | (with_reducible exact hO) | (with_reducible apply Own.alloc) | (with_reducible apply Own.drew) | ((with_reducible apply Own.set_at); (focus (show _ ≤ _; omega)))))
        have hG := hF; clear hF; clear hO; intro hO
        refine own_ret (v := .tuple #[.slice none 0 0, .bool false]) hO ?_ rfl (fun hO => (by rw [HNO.out HC.out, HC.out]; exact ⟨_, rfl, ⟨by simp [vcC], .inl ⟨rfl, rfl⟩⟩, hO.base⟩))
        clear hO; intro w1 hO
        (try simp only [World.size_alloc1, World.size_drew, Nat.reduceAdd] at hO); (try simp only [upd, updI, List.map_cons, List.map_nil, eq_self, if_true, if_false, reduceIte, Nat.add_eq_left, Nat.left_eq_add, Nat.reduceEqDiff, List.set_cons_zero, List.set_cons_succ, hG] at hO); clear hG
        have hF := hO; (try simp only [Own, Item.Holds, apartI, CellsAt, Nat.reduceAdd, Nat.zero_add, List.mem_cons, List.not_mem_nil, or_false, forall_eq_or_imp, forall_eq, ne_eq, false_imp_iff, implies_true, and_true] at hF)
        simp [results, Tryd.results29, go_sem, hF]
      · have HC := hid (show caB v d st ha = true by rw [HB.out]; simp [h60])
        have HE := hid (show caL v d st ha = rsN d :: u from HL.out HC.out)
        have h61 : ((k : Int) == 60) = false := by simp; omega
        have h62 : ¬ (k : Int) = 60 := by omega
        have HU := hid (one_vcI u)
        clear h60 HB HNO
        go_enter Tryd.func29, Tryd.ntmps29
        go_wp2_with fail
        (go_at_call 26; apply own_at hO; (repeat (first | (with_reducible exact hO) | (with_reducible apply Own.alloc) | (with_reducible apply Own.drew) | ((with_reducible apply Own.set_at); (focus (show _ ≤ _; omega))))); have hG := hF; clear hF; clear hO; intro hO; refine own_call_rowB hO (fun hB => HSH.out _ hB) ?_; clear hO; intro v w1 hO; (try simp only [World.size_alloc1, World.size_drew, Nat.reduceAdd] at hO); (try simp only [upd, updI, List.map_cons, List.map_nil, eq_self, if_true, if_false, reduceIte, Nat.add_eq_left, Nat.left_eq_add, Nat.reduceEqDiff, List.set_cons_zero, List.set_cons_succ, hG] at hO); clear hG; have hF := hO; (try simp only [Own, Item.Holds, apartI, CellsAt, Nat.reduceAdd, Nat.zero_add, List.mem_cons, List.not_mem_nil, or_false, forall_eq_or_imp, forall_eq, ne_eq, false_imp_iff, implies_true, and_true] at hF))
        obtain ⟨A9, c9, hv9⟩ := (SlAt.of_row hO.1.1).form
        subst hv9
        go_wp2_with fail
        (go_at_call 63; apply own_at hO; (repeat (first | (with_reducible exact hO) | (with_reducible apply Own.alloc) | (with_reducible apply Own.drew) | ((with_reducible apply Own.set_at); (focus (show _ ≤ _; omega))))); have hG := hF; clear hF; clear hO; intro hO; refine own_call hO (fun hB => HIN.out _) ?_; clear hO; intro w1 hO; (try simp only [World.size_alloc1, World.size_drew, Nat.reduceAdd] at hO); (try simp only [upd, updI, List.map_cons, List.map_nil, eq_self, if_true, if_false, reduceIte, Nat.add_eq_left, Nat.left_eq_add, Nat.reduceEqDiff, List.set_cons_zero, List.set_cons_succ, hG] at hO); clear hG; have hF := hO; (try simp only [Own, Item.Holds, apartI, CellsAt, Nat.reduceAdd, Nat.zero_add, List.mem_cons, List.not_mem_nil, or_false, forall_eq_or_imp, forall_eq, ne_eq, false_imp_iff, implies_true, and_true] at hF))
        go_wp2_with (at_builtin; refine wpList_append_slice rfl _ _ 28 rfl 53 i0 (.agg #[.bool false, .int .i64 0, .int .i64 0, .int .i64 0, .int .i64 0, .bool false]) 6 48 Tryd.underlying28 hi0 hz0 hz1 hz2 rfl (by decide) rfl rfl (hO.allocRow (e := 53) (cur := #[.bool true, .int .i64 0, .int .i64 0, .int .i64 0, .int .i64 d, .bool false]) (k := 1) (cap := 1) 6 (by omega) (by unfold maxLen; omega) rfl) ((SlAt.of_row hO.1.1).below (below1 _)) HU.out (by unfold maxLen; omega) (by omega) ?_; clear hO hF; intro v' w5 hO; have hF := True.intro)
        go_ret2
        rw [HE.out, HC.out]
        have hlen : (rsN d :: u).length = 1 + k := by rw [List.length_cons, HK.out]; omega
        rw [hlen]
        exact RowOutB.mk hO
theorem cnoI_C {w : World} (hT : TabH w) : CCn 29 w := fun va v d st ha W hW hs hn _ rs rh => cnoI_any va v d st ha W (hT.below hW) hs hn rs rh
end Go.Proofs.YtmkhpafcgobfhaaDoor
