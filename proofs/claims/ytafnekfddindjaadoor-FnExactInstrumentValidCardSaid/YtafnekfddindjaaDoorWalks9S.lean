/- Chapter 9 in the model: instruments; what is written, what sounds; the first note outside. -/
import Derived.Test.YtafnekfddindjaaDoorWalks5H
import Derived.Test.YtafnekfddindjaaDoorWalks5N
import Derived.Test.YtafnekfddindjaaDoorWalks2S
import Derived.Test.YtafnekfddindjaaDoorWalks3S
import Derived.Test.YtafnekfddindjaaDoorWalks1
import Derived.Test.YtafnekfddindjaaDoorPure9
import Derived.Test.YtafnekfddindjaaDoorRegionD
namespace Go.Proofs.YtafnekfddindjaaDoor
set_option linter.unusedSimpArgs false
set_option linter.unusedVariables false
set_option maxRecDepth 8000
open Go.RowKit

theorem ivS_is {st ha : Int} {b : Bool} (h : ivB st ha = b) (w : World) : Calls Tryd.prog 37 #[.agg #[.int .i64 st, .int .i64 ha]] w fun e w' => e = .returned (.bool b) ∧ Below w.heap.size w w' := by
  subst h; exact ivS_any st ha w
set_option maxHeartbeats 2000000 in
theorem inS_any (st ha lo hi : Int) (w : World) :
    Calls Tryd.prog 13 #[.agg #[.int .i64 st, .int .i64 ha, .int .i64 lo, .int .i64 hi]] w fun e w' => e = .returned (.bool (inVB st ha lo hi)) ∧ Below w.heap.size w w' := by
  have hO := Own.start w
  have hF := True.intro
  obtain ⟨b1, h1⟩ : ∃ b, ivB st ha = b := ⟨_, rfl⟩
  obtain ⟨b2, h2⟩ : ∃ b, inB lo 0 107 = b := ⟨_, rfl⟩
  obtain ⟨b3, h3⟩ : ∃ b, inB hi lo 107 = b := ⟨_, rfl⟩
  have HE := hid (show inVB st ha lo hi = (b1 && (b2 && b3)) by unfold inVB; rw [h1, h2, h3])
  have H1 := hid (fun W => ivS_is h1 W)
  have H2 := hid (fun W => in_is W h2)
  have H3 := hid (fun W => in_is W h3)
  clear h1 h2 h3
  cases b1 <;> cases b2 <;> cases b3
  all_goals
    go_enter Tryd.func13, Tryd.ntmps13
    go_wp2_with (first | (go_at_call 37; apply own_at hO; (repeat (first | (with_reducible exact hO) | (with_reducible apply Own.alloc) | (with_reducible apply Own.drew) | ((with_reducible apply Own.set_at); (focus (show _ ≤ _; omega))))); have hG := hF; clear hF; clear hO; intro hO; refine own_call hO (fun hB => H1.out _) ?_; clear hO; intro w1 hO; (try simp only [World.size_alloc1, World.size_drew, Nat.reduceAdd] at hO); (try simp only [upd, updI, List.map_cons, List.map_nil, eq_self, if_true, if_false, reduceIte, Nat.add_eq_left, Nat.left_eq_add, Nat.reduceEqDiff, List.set_cons_zero, List.set_cons_succ, hG] at hO); clear hG; have hF := hO; (try simp only [Own, Item.Holds, apartI, CellsAt, Nat.reduceAdd, Nat.zero_add, List.mem_cons, List.not_mem_nil, or_false, forall_eq_or_imp, forall_eq, ne_eq, false_imp_iff, implies_true, and_true] at hF)) | ((go_at_call 38; apply own_at hO; (repeat (first | (with_reducible exact hO) | (with_reducible apply Own.alloc) | (with_reducible apply Own.drew) | ((with_reducible apply Own.set_at); (focus (show _ ≤ _; omega))))); have hG := hF; clear hF; clear hO; intro hO; refine own_call hO (fun hB => H2.out _) ?_; clear hO; intro w1 hO; (try simp only [World.size_alloc1, World.size_drew, Nat.reduceAdd] at hO); (try simp only [upd, updI, List.map_cons, List.map_nil, eq_self, if_true, if_false, reduceIte, Nat.add_eq_left, Nat.left_eq_add, Nat.reduceEqDiff, List.set_cons_zero, List.set_cons_succ, hG] at hO); clear hG; have hF := hO; (try simp only [Own, Item.Holds, apartI, CellsAt, Nat.reduceAdd, Nat.zero_add, List.mem_cons, List.not_mem_nil, or_false, forall_eq_or_imp, forall_eq, ne_eq, false_imp_iff, implies_true, and_true] at hF)); clear H2) | (go_at_call 38; apply own_at hO; (repeat (first | (with_reducible exact hO) | (with_reducible apply Own.alloc) | (with_reducible apply Own.drew) | ((with_reducible apply Own.set_at); (focus (show _ ≤ _; omega))))); have hG := hF; clear hF; clear hO; intro hO; refine own_call hO (fun hB => H3.out _) ?_; clear hO; intro w1 hO; (try simp only [World.size_alloc1, World.size_drew, Nat.reduceAdd] at hO); (try simp only [upd, updI, List.map_cons, List.map_nil, eq_self, if_true, if_false, reduceIte, Nat.add_eq_left, Nat.left_eq_add, Nat.reduceEqDiff, List.set_cons_zero, List.set_cons_succ, hG] at hO); clear hG; have hF := hO; (try simp only [Own, Item.Holds, apartI, CellsAt, Nat.reduceAdd, Nat.zero_add, List.mem_cons, List.not_mem_nil, or_false, forall_eq_or_imp, forall_eq, ne_eq, false_imp_iff, implies_true, and_true] at hF)))
    go_ret
    exact ⟨by rw [HE.out]; rfl, Own.base (by (repeat (first | (with_reducible exact hO) | (with_reducible apply Own.alloc) | (with_reducible apply Own.drew) | ((with_reducible apply Own.set_at); (focus (show _ ≤ _; omega))))))⟩
theorem inS_is {st ha lo hi : Int} {b : Bool} (h : inVB st ha lo hi = b) (w : World) : Calls Tryd.prog 13 #[.agg #[.int .i64 st, .int .i64 ha, .int .i64 lo, .int .i64 hi]] w fun e w' => e = .returned (.bool b) ∧ Below w.heap.size w w' := by
  subst h; exact inS_any st ha lo hi w

set_option maxHeartbeats 2000000 in
theorem wfS_any (va : Value) (v : List Nt) (st ha lo hi : Int) (w : World) (hs : SlAt w va v.length 6 (vcC v)) (hn : v.length ≤ 1048576) :
    Calls Tryd.prog 17 #[.agg #[.int .i64 st, .int .i64 ha, .int .i64 lo, .int .i64 hi], va] w (RowOutB 43 6 (wfL st ha lo hi v).length (vcC (wfL st ha lo hi v)) (wfB st ha lo hi v) w) := by
  have hO := Own.start w
  have hF := True.intro
  cases hv : inVB st ha lo hi
  · have HE := hid (show wfB st ha lo hi v = false ∧ wfL st ha lo hi v = [] from ⟨by unfold wfB; rw [hv]; rfl, by unfold wfL; rw [hv]; rfl⟩)
    have HV := hid (fun W => inS_is hv W)
    clear hv hs
    go_enter Tryd.func17, Tryd.ntmps17
    go_wp2_with (go_at_call 13; apply own_at hO; (repeat (first | (with_reducible exact hO) | (with_reducible apply Own.alloc) | (with_reducible apply Own.drew) | ((with_reducible apply Own.set_at); (focus (show _ ≤ _; omega))))); have hG := hF; clear hF; clear hO; intro hO; refine own_call hO (fun hB => HV.out _) ?_; clear hO; intro w1 hO; (try simp only [World.size_alloc1, World.size_drew, Nat.reduceAdd] at hO); (try simp only [upd, updI, List.map_cons, List.map_nil, eq_self, if_true, if_false, reduceIte, Nat.add_eq_left, Nat.left_eq_add, Nat.reduceEqDiff, List.set_cons_zero, List.set_cons_succ, hG] at hO); clear hG; have hF := hO; (try simp only [Own, Item.Holds, apartI, CellsAt, Nat.reduceAdd, Nat.zero_add, List.mem_cons, List.not_mem_nil, or_false, forall_eq_or_imp, forall_eq, ne_eq, false_imp_iff, implies_true, and_true] at hF))
    go_ret2
    rw [HE.out.1, HE.out.2]
    have hO2 := hO.allocRow (e := 43) (cur := #[]) (k := 0) (cap := 0) 6 (by omega) (by unfold maxLen; omega) rfl
    exact RowOutB.mk hO2
  · have HE := hid (show wfB st ha lo hi v = shB v st ha ∧ wfL st ha lo hi v = shL v st ha from ⟨by unfold wfB; rw [hv]; rfl, by unfold wfL; rw [if_pos hv]⟩)
    have HV := hid (fun W => inS_is hv W)
    have HS := hid (fun W (hW : Below w.heap.size w W) => svS_any va v st ha W (hs.below hW) hn)
    clear hv hs
    go_enter Tryd.func17, Tryd.ntmps17
    go_wp2_with (first | (go_at_call 13; apply own_at hO; (repeat (first | (with_reducible exact hO) | (with_reducible apply Own.alloc) | (with_reducible apply Own.drew) | ((with_reducible apply Own.set_at); (focus (show _ ≤ _; omega))))); have hG := hF; clear hF; clear hO; intro hO; refine own_call hO (fun hB => HV.out _) ?_; clear hO; intro w1 hO; (try simp only [World.size_alloc1, World.size_drew, Nat.reduceAdd] at hO); (try simp only [upd, updI, List.map_cons, List.map_nil, eq_self, if_true, if_false, reduceIte, Nat.add_eq_left, Nat.left_eq_add, Nat.reduceEqDiff, List.set_cons_zero, List.set_cons_succ, hG] at hO); clear hG; have hF := hO; (try simp only [Own, Item.Holds, apartI, CellsAt, Nat.reduceAdd, Nat.zero_add, List.mem_cons, List.not_mem_nil, or_false, forall_eq_or_imp, forall_eq, ne_eq, false_imp_iff, implies_true, and_true] at hF)) | (go_at_call 41; apply own_at hO; (repeat (first | (with_reducible exact hO) | (with_reducible apply Own.alloc) | (with_reducible apply Own.drew) | ((with_reducible apply Own.set_at); (focus (show _ ≤ _; omega))))); have hG := hF; clear hF; clear hO; intro hO; refine own_call_rowB hO (fun hB => HS.out _ hB) ?_; clear hO; intro v w1 hO; (try simp only [World.size_alloc1, World.size_drew, Nat.reduceAdd] at hO); (try simp only [upd, updI, List.map_cons, List.map_nil, eq_self, if_true, if_false, reduceIte, Nat.add_eq_left, Nat.left_eq_add, Nat.reduceEqDiff, List.set_cons_zero, List.set_cons_succ, hG] at hO); clear hG; have hF := hO; (try simp only [Own, Item.Holds, apartI, CellsAt, Nat.reduceAdd, Nat.zero_add, List.mem_cons, List.not_mem_nil, or_false, forall_eq_or_imp, forall_eq, ne_eq, false_imp_iff, implies_true, and_true] at hF)))
    go_ret2
    rw [HE.out.1, HE.out.2]
    exact RowOutB.mk hO

set_option maxHeartbeats 2000000 in
theorem sfS_any (va : Value) (v : List Nt) (st ha lo hi : Int) (w : World) (hs : SlAt w va v.length 6 (vcC v)) (hn : v.length ≤ 1048576) :
    Calls Tryd.prog 21 #[.agg #[.int .i64 st, .int .i64 ha, .int .i64 lo, .int .i64 hi], va] w (RowOutB 43 6 (sfL st ha lo hi v).length (vcC (sfL st ha lo hi v)) (sfB st ha lo hi v) w) := by
  have hO := Own.start w
  have hF := True.intro
  cases hv : inVB st ha lo hi
  · have HE := hid (show sfB st ha lo hi v = false ∧ sfL st ha lo hi v = [] from ⟨by unfold sfB; rw [hv]; rfl, by unfold sfL; rw [hv]; rfl⟩)
    have HV := hid (fun W => inS_is hv W)
    clear hv hs
    go_enter Tryd.func21, Tryd.ntmps21
    go_wp2_with (go_at_call 13; apply own_at hO; (repeat (first | (with_reducible exact hO) | (with_reducible apply Own.alloc) | (with_reducible apply Own.drew) | ((with_reducible apply Own.set_at); (focus (show _ ≤ _; omega))))); have hG := hF; clear hF; clear hO; intro hO; refine own_call hO (fun hB => HV.out _) ?_; clear hO; intro w1 hO; (try simp only [World.size_alloc1, World.size_drew, Nat.reduceAdd] at hO); (try simp only [upd, updI, List.map_cons, List.map_nil, eq_self, if_true, if_false, reduceIte, Nat.add_eq_left, Nat.left_eq_add, Nat.reduceEqDiff, List.set_cons_zero, List.set_cons_succ, hG] at hO); clear hG; have hF := hO; (try simp only [Own, Item.Holds, apartI, CellsAt, Nat.reduceAdd, Nat.zero_add, List.mem_cons, List.not_mem_nil, or_false, forall_eq_or_imp, forall_eq, ne_eq, false_imp_iff, implies_true, and_true] at hF))
    go_ret2
    rw [HE.out.1, HE.out.2]
    have hO2 := hO.allocRow (e := 43) (cur := #[]) (k := 0) (cap := 0) 6 (by omega) (by unfold maxLen; omega) rfl
    exact RowOutB.mk hO2
  · have HE := hid (show sfB st ha lo hi v = shB v (-st) (-ha) ∧ sfL st ha lo hi v = shL v (-st) (-ha) from ⟨by unfold sfB; rw [hv]; rfl, by unfold sfL; rw [if_pos hv]⟩)
    have HV := hid (fun W => inS_is hv W)
    have HB := hid (fun W => backS_yes st ha W (inVB_iff.1 hv).1)
    have HS := hid (fun W (hW : Below w.heap.size w W) => svS_any va v (-st) (-ha) W (hs.below hW) hn)
    clear hv hs
    go_enter Tryd.func21, Tryd.ntmps21
    go_wp2_with (first | (go_at_call 13; apply own_at hO; (repeat (first | (with_reducible exact hO) | (with_reducible apply Own.alloc) | (with_reducible apply Own.drew) | ((with_reducible apply Own.set_at); (focus (show _ ≤ _; omega))))); have hG := hF; clear hF; clear hO; intro hO; refine own_call hO (fun hB => HV.out _) ?_; clear hO; intro w1 hO; (try simp only [World.size_alloc1, World.size_drew, Nat.reduceAdd] at hO); (try simp only [upd, updI, List.map_cons, List.map_nil, eq_self, if_true, if_false, reduceIte, Nat.add_eq_left, Nat.left_eq_add, Nat.reduceEqDiff, List.set_cons_zero, List.set_cons_succ, hG] at hO); clear hG; have hF := hO; (try simp only [Own, Item.Holds, apartI, CellsAt, Nat.reduceAdd, Nat.zero_add, List.mem_cons, List.not_mem_nil, or_false, forall_eq_or_imp, forall_eq, ne_eq, false_imp_iff, implies_true, and_true] at hF)) | (go_at_call 43; apply own_at hO; (repeat (first | (with_reducible exact hO) | (with_reducible apply Own.alloc) | (with_reducible apply Own.drew) | ((with_reducible apply Own.set_at); (focus (show _ ≤ _; omega))))); have hG := hF; clear hF; clear hO; intro hO; refine own_call hO (fun hB => HB.out _) ?_; clear hO; intro w1 hO; (try simp only [World.size_alloc1, World.size_drew, Nat.reduceAdd] at hO); (try simp only [upd, updI, List.map_cons, List.map_nil, eq_self, if_true, if_false, reduceIte, Nat.add_eq_left, Nat.left_eq_add, Nat.reduceEqDiff, List.set_cons_zero, List.set_cons_succ, hG] at hO); clear hG; have hF := hO; (try simp only [Own, Item.Holds, apartI, CellsAt, Nat.reduceAdd, Nat.zero_add, List.mem_cons, List.not_mem_nil, or_false, forall_eq_or_imp, forall_eq, ne_eq, false_imp_iff, implies_true, and_true] at hF)) | (go_at_call 41; apply own_at hO; (repeat (first | (with_reducible exact hO) | (with_reducible apply Own.alloc) | (with_reducible apply Own.drew) | ((with_reducible apply Own.set_at); (focus (show _ ≤ _; omega))))); have hG := hF; clear hF; clear hO; intro hO; refine own_call_rowB hO (fun hB => HS.out _ hB) ?_; clear hO; intro v w1 hO; (try simp only [World.size_alloc1, World.size_drew, Nat.reduceAdd] at hO); (try simp only [upd, updI, List.map_cons, List.map_nil, eq_self, if_true, if_false, reduceIte, Nat.add_eq_left, Nat.left_eq_add, Nat.reduceEqDiff, List.set_cons_zero, List.set_cons_succ, hG] at hO); clear hG; have hF := hO; (try simp only [Own, Item.Holds, apartI, CellsAt, Nat.reduceAdd, Nat.zero_add, List.mem_cons, List.not_mem_nil, or_false, forall_eq_or_imp, forall_eq, ne_eq, false_imp_iff, implies_true, and_true] at hF)))
    go_ret2
    rw [HE.out.1, HE.out.2]
    exact RowOutB.mk hO

theorem keyS_is {s a o z : Int} (h : keyZ s a o = z) (w : World) : Calls Tryd.prog 46 #[.agg #[.int .i64 s, .int .i64 a, .int .i64 o]] w fun e w' => e = .returned (.int .i64 z) ∧ Below w.heap.size w w' := by
  subst h; exact keyS_any s a o w
set_option maxRecDepth 8000 in
set_option maxHeartbeats 4000000 in
theorem rfS_any (va : Value) (v : List Nt) (st ha lo hi : Int) (w : World) (hs : SlAt w va v.length 6 (vcC v)) (hn : v.length ≤ 1048576) :
    Calls Tryd.prog 24 #[.agg #[.int .i64 st, .int .i64 ha, .int .i64 lo, .int .i64 hi], va] w fun e w' => e = .returned (.int .i64 (rfZ st ha lo hi v)) ∧ Below w.heap.size w w' := by
  have hO := Own.start w
  have hF := True.intro
  obtain ⟨A, c, rfl, nb, hA⟩ := hs.open
  have HA := hid hs
  clear hs
  obtain ⟨n, hnl⟩ : ∃ n, v.length = n := ⟨_, rfl⟩
  have HN := hid hnl
  rw [hnl] at hn nb hA HA ⊢
  obtain ⟨bi, hbi⟩ : ∃ b, inVB st ha lo hi = b := ⟨_, rfl⟩
  obtain ⟨bv, hbv⟩ : ∃ b, voB v = b := ⟨_, rfl⟩
  have HI := hid (fun W => inS_is hbi W)
  have HV := hid (voS_is hnl HA.out hn hbv)
  by_cases hok : (bi && bv) = true
  · rw [Bool.and_eq_true] at hok
    obtain ⟨rfl, rfl⟩ := hok
    have HE := hid (show rfZ st ha lo hi v = rfF lo hi 0 (v.drop 0) by unfold rfZ; rw [hbi, hbv]; rfl)
    clear hbi hbv hnl
    go_enter Tryd.func24, Tryd.ntmps24
    go_wp2_with fail
    (apply own_code hO; (repeat (first | (with_reducible exact hO) | (with_reducible apply Own.alloc) | (with_reducible apply Own.drew) | ((with_reducible apply Own.set_at); (focus (show _ ≤ _; omega))))); have hG := hF; clear hF; clear hO; intro hO; (try simp only [World.size_alloc1, World.size_drew, Nat.reduceAdd] at hO); (try simp only [upd, updI, List.map_cons, List.map_nil, eq_self, if_true, if_false, reduceIte, Nat.add_eq_left, Nat.left_eq_add, Nat.reduceEqDiff, List.set_cons_zero, List.set_cons_succ, hG] at hO); clear hG; have hF := hO; (try simp only [Own, Item.Holds, apartI, CellsAt, Nat.reduceAdd, Nat.zero_add, List.mem_cons, List.not_mem_nil, or_false, forall_eq_or_imp, forall_eq, ne_eq, false_imp_iff, implies_true, and_true] at hF))
    go_loopw [5] (fun t wr => ∃ j : Nat, j ≤ n ∧ t = .int .i64 j ∧ Hid (rfZ st ha lo hi v = rfF lo hi j (v.drop j)) ∧ Own w.heap.size (Below w.heap.size w) wr [.blk w.heap.size [.int .i64 st, .int .i64 ha, .int .i64 lo, .int .i64 hi]]) (fun t _ => n - (intOf t).toNat)
    case atStart => exact ⟨0, by omega, rfl, HE, hO⟩
    case round =>
      clear hO hF
      obtain ⟨j, hj, rfl, HE, hO⟩ := hrel
      have hF := hO; (try simp only [Own, Item.Holds, apartI, CellsAt, Nat.reduceAdd, Nat.zero_add, List.mem_cons, List.not_mem_nil, or_false, forall_eq_or_imp, forall_eq, ne_eq, false_imp_iff, implies_true, and_true] at hF)
      by_cases he : j = n
      · subst he
        have HE2 := hid (HE.out.trans (rfF_end (by rw [HN.out]; exact Nat.le_refl _)))
        go_wp2_with fail
        go_ret
        exact ⟨ret_int HE2.out.symm, hO.base⟩
      · have hlt : j < n := by omega
        have hlt2 : (j : Int) < n := by omega
        obtain ⟨b, off, rfl, hc1, hc2, hb⟩ := hA (by omega)
        obtain ⟨x, hx⟩ : ∃ x, v[j]? = some x := ⟨_, List.getElem?_eq_getElem (by have := HN.out; omega)⟩
        have HU := hid (HE.out.trans (rfF_at hx))
        have HX := hid hx
        clear he hx
        go_wp2_with (first | (go_at_call 13; apply own_at hO; (repeat (first | (with_reducible exact hO) | (with_reducible apply Own.alloc) | (with_reducible apply Own.drew) | ((with_reducible apply Own.set_at); (focus (show _ ≤ _; omega))))); have hG := hF; clear hF; clear hO; intro hO; refine own_call hO (fun hB => HI.out _) ?_; clear hO; intro w1 hO; (try simp only [World.size_alloc1, World.size_drew, Nat.reduceAdd] at hO); (try simp only [upd, updI, List.map_cons, List.map_nil, eq_self, if_true, if_false, reduceIte, Nat.add_eq_left, Nat.left_eq_add, Nat.reduceEqDiff, List.set_cons_zero, List.set_cons_succ, hG] at hO); clear hG; have hF := hO; (try simp only [Own, Item.Holds, apartI, CellsAt, Nat.reduceAdd, Nat.zero_add, List.mem_cons, List.not_mem_nil, or_false, forall_eq_or_imp, forall_eq, ne_eq, false_imp_iff, implies_true, and_true] at hF)) | (go_at_call 25; apply own_at hO; (repeat (first | (with_reducible exact hO) | (with_reducible apply Own.alloc) | (with_reducible apply Own.drew) | ((with_reducible apply Own.set_at); (focus (show _ ≤ _; omega))))); have hG := hF; clear hF; clear hO; intro hO; refine own_call hO (fun hB => HV.out _ hB) ?_; clear hO; intro w1 hO; (try simp only [World.size_alloc1, World.size_drew, Nat.reduceAdd] at hO); (try simp only [upd, updI, List.map_cons, List.map_nil, eq_self, if_true, if_false, reduceIte, Nat.add_eq_left, Nat.left_eq_add, Nat.reduceEqDiff, List.set_cons_zero, List.set_cons_succ, hG] at hO); clear hG; have hF := hO; (try simp only [Own, Item.Holds, apartI, CellsAt, Nat.reduceAdd, Nat.zero_add, List.mem_cons, List.not_mem_nil, or_false, forall_eq_or_imp, forall_eq, ne_eq, false_imp_iff, implies_true, and_true] at hF)))
        cases hr : x.r
        · obtain ⟨z, hz⟩ : ∃ z, keyZ x.s x.a x.o = z := ⟨_, rfl⟩
          obtain ⟨bo, hbo⟩ : ∃ b, inB z lo hi = b := ⟨_, rfl⟩
          have ho : outB lo hi x = !bo := by unfold outB; rw [hr, hz, hbo]; rfl
          have HK := hid (fun W => keyS_is hz W)
          have HB := hid (fun W => in_is W hbo)
          have HR := hid hr
          have HO := hid ho
          clear hr hz hbo ho
          cases bo
          · have HE2 := hid (show rfZ st ha lo hi v = j by rw [HU.out, HO.out]; rfl)
            apply own_code hO
            (repeat (first | (with_reducible exact hO) | (with_reducible apply Own.alloc) | (with_reducible apply Own.drew) | ((with_reducible apply Own.set_at); (focus (show _ ≤ _; omega)))))
            have hG := hF; clear hF; clear hO; intro hO
            (try simp only [World.size_alloc1, World.size_drew, Nat.reduceAdd] at hO); (try simp only [upd, updI, List.map_cons, List.map_nil, eq_self, if_true, if_false, reduceIte, Nat.add_eq_left, Nat.left_eq_add, Nat.reduceEqDiff, List.set_cons_zero, List.set_cons_succ, hG] at hO); clear hG
            refine region_own (X := fun _ => True) [] (by kernel_rfl) (hO) (trivial) (by first | exact XStab.true | exact XStab.rd | exact XStab.rdIf) ?_
            clear hO
            refine Sim.sP (i := 0) (d := some 20) (h := ?_)
            refine Sim.sP (i := 1) (d := some 21) (h := ?_)
            refine Sim.sP (i := 2) (d := some 22) (h := ?_)
            refine Sim.sP (i := 3) (d := some 23) (h := ?_)
            refine Sim.sO (i := 4) (d := some 24) (v := ?_) (hy := ?_) (h := ?_)
            rotate_left
            · first | refine Or.inl ⟨by rfl, fun w hO => ?_⟩ | (refine Or.inr ⟨by rfl, ?_⟩; with_reducible rfl)
              first | done | (have hF := hO; (try simp only [Own, Item.Holds, apartI, CellsAt, Nat.reduceAdd, Nat.zero_add, List.mem_cons, List.not_mem_nil, or_false, forall_eq_or_imp, forall_eq, ne_eq, false_imp_iff, implies_true, and_true] at hF); ((have ⟨d0, d1, d2, d3, d4, d5⟩ := noteAt (HA.out.below hO.base) HX.out; rw [HR.out] at d0)); refine Out.same ?_; go_simp; all_goals with_reducible rfl)
            refine Sim.sP (i := 5) (d := some 25) (h := ?_)
            refine Sim.sP (i := 6) (d := some 26) (h := ?_)
            refine Sim.sP (i := 7) (d := some 27) (h := ?_)
            refine Sim.sP (i := 8) (d := some 28) (h := ?_)
            refine Sim.sP (i := 9) (d := some 29) (h := ?_)
            refine Sim.sP (i := 10) (d := some 30) (h := ?_)
            refine Sim.sO (i := 11) (d := some 31) (v := ?_) (hy := ?_) (h := ?_)
            rotate_left
            · first | refine Or.inl ⟨by rfl, fun w hO => ?_⟩ | (refine Or.inr ⟨by rfl, ?_⟩; with_reducible rfl)
              first | done | (have hF := hO; (try simp only [Own, Item.Holds, apartI, CellsAt, Nat.reduceAdd, Nat.zero_add, List.mem_cons, List.not_mem_nil, or_false, forall_eq_or_imp, forall_eq, ne_eq, false_imp_iff, implies_true, and_true] at hF); ((have ⟨d0, d1, d2, d3, d4, d5⟩ := noteAt (HA.out.below hO.base) HX.out; rw [HR.out] at d0)); refine Out.same ?_; go_simp; all_goals with_reducible rfl)
            refine Sim.sO (i := 12) (d := some 32) (v := ?_) (hy := ?_) (h := ?_)
            rotate_left
            · first | refine Or.inl ⟨by rfl, fun w hO => ?_⟩ | (refine Or.inr ⟨by rfl, ?_⟩; with_reducible rfl)
              first | done | (refine Out.call (f := 46) (args := ?_) ?_ ?_; rotate_left; (focus (go_simp; all_goals with_reducible rfl)); exact HK.out _)
            refine Sim.sP (i := 13) (d := some 33) (h := ?_)
            refine Sim.sO (i := 14) (d := some 34) (v := ?_) (hy := ?_) (h := ?_)
            rotate_left
            · first | refine Or.inl ⟨by rfl, fun w hO => ?_⟩ | (refine Or.inr ⟨by rfl, ?_⟩; with_reducible rfl)
              first | done | (have hF := hO; (try simp only [Own, Item.Holds, apartI, CellsAt, Nat.reduceAdd, Nat.zero_add, List.mem_cons, List.not_mem_nil, or_false, forall_eq_or_imp, forall_eq, ne_eq, false_imp_iff, implies_true, and_true] at hF); ((have ⟨d0, d1, d2, d3, d4, d5⟩ := noteAt (HA.out.below hO.base) HX.out; rw [HR.out] at d0)); refine Out.same ?_; go_simp; all_goals with_reducible rfl)
            refine Sim.sP (i := 15) (d := some 35) (h := ?_)
            refine Sim.sO (i := 16) (d := some 36) (v := ?_) (hy := ?_) (h := ?_)
            rotate_left
            · first | refine Or.inl ⟨by rfl, fun w hO => ?_⟩ | (refine Or.inr ⟨by rfl, ?_⟩; with_reducible rfl)
              first | done | (have hF := hO; (try simp only [Own, Item.Holds, apartI, CellsAt, Nat.reduceAdd, Nat.zero_add, List.mem_cons, List.not_mem_nil, or_false, forall_eq_or_imp, forall_eq, ne_eq, false_imp_iff, implies_true, and_true] at hF); ((have ⟨d0, d1, d2, d3, d4, d5⟩ := noteAt (HA.out.below hO.base) HX.out; rw [HR.out] at d0)); refine Out.same ?_; go_simp; all_goals with_reducible rfl)
            refine Sim.sO (i := 17) (d := some 37) (v := ?_) (hy := ?_) (h := ?_)
            rotate_left
            · first | refine Or.inl ⟨by rfl, fun w hO => ?_⟩ | (refine Or.inr ⟨by rfl, ?_⟩; with_reducible rfl)
              first | done | (refine Out.call (f := 38) (args := ?_) ?_ ?_; rotate_left; (focus (go_simp; all_goals with_reducible rfl)); exact HB.out _)
            refine Sim.sP (i := 18) (d := some 38) (h := ?_)
            refine Sim.sP (i := 19) (d := some 39) (h := ?_)
            refine Sim.done (by kernel_rfl) (fun w1 hO hX => ?_) _
            (try simp only [World.size_alloc1, World.size_drew, Nat.reduceAdd] at hO); (try simp only [upd, updI, List.map_cons, List.map_nil, eq_self, if_true, if_false, reduceIte, Nat.add_eq_left, Nat.left_eq_add, Nat.reduceEqDiff, List.set_cons_zero, List.set_cons_succ] at hO)
            have hF := hO; (try simp only [Own, Item.Holds, apartI, CellsAt, Nat.reduceAdd, Nat.zero_add, List.mem_cons, List.not_mem_nil, or_false, forall_eq_or_imp, forall_eq, ne_eq, false_imp_iff, implies_true, and_true] at hF)
            go_wp2
            go_ret
            exact ⟨ret_int HE2.out.symm, hO.base⟩
          · have HE2 := hid (show rfZ st ha lo hi v = rfF lo hi (j + 1) (v.drop (j + 1)) by rw [HU.out, HO.out]; rfl)
            apply own_code hO
            (repeat (first | (with_reducible exact hO) | (with_reducible apply Own.alloc) | (with_reducible apply Own.drew) | ((with_reducible apply Own.set_at); (focus (show _ ≤ _; omega)))))
            have hG := hF; clear hF; clear hO; intro hO
            (try simp only [World.size_alloc1, World.size_drew, Nat.reduceAdd] at hO); (try simp only [upd, updI, List.map_cons, List.map_nil, eq_self, if_true, if_false, reduceIte, Nat.add_eq_left, Nat.left_eq_add, Nat.reduceEqDiff, List.set_cons_zero, List.set_cons_succ, hG] at hO); clear hG
            refine region_own (X := fun _ => True) [] (by kernel_rfl) (hO) (trivial) (by first | exact XStab.true | exact XStab.rd | exact XStab.rdIf) ?_
            clear hO
            refine Sim.sP (i := 0) (d := some 20) (h := ?_)
            refine Sim.sP (i := 1) (d := some 21) (h := ?_)
            refine Sim.sP (i := 2) (d := some 22) (h := ?_)
            refine Sim.sP (i := 3) (d := some 23) (h := ?_)
            refine Sim.sO (i := 4) (d := some 24) (v := ?_) (hy := ?_) (h := ?_)
            rotate_left
            · first | refine Or.inl ⟨by rfl, fun w hO => ?_⟩ | (refine Or.inr ⟨by rfl, ?_⟩; with_reducible rfl)
              first | done | (have hF := hO; (try simp only [Own, Item.Holds, apartI, CellsAt, Nat.reduceAdd, Nat.zero_add, List.mem_cons, List.not_mem_nil, or_false, forall_eq_or_imp, forall_eq, ne_eq, false_imp_iff, implies_true, and_true] at hF); ((have ⟨d0, d1, d2, d3, d4, d5⟩ := noteAt (HA.out.below hO.base) HX.out; rw [HR.out] at d0)); refine Out.same ?_; go_simp; all_goals with_reducible rfl)
            refine Sim.sP (i := 5) (d := some 25) (h := ?_)
            refine Sim.sP (i := 6) (d := some 26) (h := ?_)
            refine Sim.sP (i := 7) (d := some 27) (h := ?_)
            refine Sim.sP (i := 8) (d := some 28) (h := ?_)
            refine Sim.sP (i := 9) (d := some 29) (h := ?_)
            refine Sim.sP (i := 10) (d := some 30) (h := ?_)
            refine Sim.sO (i := 11) (d := some 31) (v := ?_) (hy := ?_) (h := ?_)
            rotate_left
            · first | refine Or.inl ⟨by rfl, fun w hO => ?_⟩ | (refine Or.inr ⟨by rfl, ?_⟩; with_reducible rfl)
              first | done | (have hF := hO; (try simp only [Own, Item.Holds, apartI, CellsAt, Nat.reduceAdd, Nat.zero_add, List.mem_cons, List.not_mem_nil, or_false, forall_eq_or_imp, forall_eq, ne_eq, false_imp_iff, implies_true, and_true] at hF); ((have ⟨d0, d1, d2, d3, d4, d5⟩ := noteAt (HA.out.below hO.base) HX.out; rw [HR.out] at d0)); refine Out.same ?_; go_simp; all_goals with_reducible rfl)
            refine Sim.sO (i := 12) (d := some 32) (v := ?_) (hy := ?_) (h := ?_)
            rotate_left
            · first | refine Or.inl ⟨by rfl, fun w hO => ?_⟩ | (refine Or.inr ⟨by rfl, ?_⟩; with_reducible rfl)
              first | done | (refine Out.call (f := 46) (args := ?_) ?_ ?_; rotate_left; (focus (go_simp; all_goals with_reducible rfl)); exact HK.out _)
            refine Sim.sP (i := 13) (d := some 33) (h := ?_)
            refine Sim.sO (i := 14) (d := some 34) (v := ?_) (hy := ?_) (h := ?_)
            rotate_left
            · first | refine Or.inl ⟨by rfl, fun w hO => ?_⟩ | (refine Or.inr ⟨by rfl, ?_⟩; with_reducible rfl)
              first | done | (have hF := hO; (try simp only [Own, Item.Holds, apartI, CellsAt, Nat.reduceAdd, Nat.zero_add, List.mem_cons, List.not_mem_nil, or_false, forall_eq_or_imp, forall_eq, ne_eq, false_imp_iff, implies_true, and_true] at hF); ((have ⟨d0, d1, d2, d3, d4, d5⟩ := noteAt (HA.out.below hO.base) HX.out; rw [HR.out] at d0)); refine Out.same ?_; go_simp; all_goals with_reducible rfl)
            refine Sim.sP (i := 15) (d := some 35) (h := ?_)
            refine Sim.sO (i := 16) (d := some 36) (v := ?_) (hy := ?_) (h := ?_)
            rotate_left
            · first | refine Or.inl ⟨by rfl, fun w hO => ?_⟩ | (refine Or.inr ⟨by rfl, ?_⟩; with_reducible rfl)
              first | done | (have hF := hO; (try simp only [Own, Item.Holds, apartI, CellsAt, Nat.reduceAdd, Nat.zero_add, List.mem_cons, List.not_mem_nil, or_false, forall_eq_or_imp, forall_eq, ne_eq, false_imp_iff, implies_true, and_true] at hF); ((have ⟨d0, d1, d2, d3, d4, d5⟩ := noteAt (HA.out.below hO.base) HX.out; rw [HR.out] at d0)); refine Out.same ?_; go_simp; all_goals with_reducible rfl)
            refine Sim.sO (i := 17) (d := some 37) (v := ?_) (hy := ?_) (h := ?_)
            rotate_left
            · first | refine Or.inl ⟨by rfl, fun w hO => ?_⟩ | (refine Or.inr ⟨by rfl, ?_⟩; with_reducible rfl)
              first | done | (refine Out.call (f := 38) (args := ?_) ?_ ?_; rotate_left; (focus (go_simp; all_goals with_reducible rfl)); exact HB.out _)
            refine Sim.sP (i := 18) (d := some 38) (h := ?_)
            refine Sim.sP (i := 19) (d := some 39) (h := ?_)
            refine Sim.done (by kernel_rfl) (fun w1 hO hX => ?_) _
            (try simp only [World.size_alloc1, World.size_drew, Nat.reduceAdd] at hO); (try simp only [upd, updI, List.map_cons, List.map_nil, eq_self, if_true, if_false, reduceIte, Nat.add_eq_left, Nat.left_eq_add, Nat.reduceEqDiff, List.set_cons_zero, List.set_cons_succ] at hO)
            have hF := hO; (try simp only [Own, Item.Holds, apartI, CellsAt, Nat.reduceAdd, Nat.zero_add, List.mem_cons, List.not_mem_nil, or_false, forall_eq_or_imp, forall_eq, ne_eq, false_imp_iff, implies_true, and_true] at hF)
            go_wp2
            go_roundw
            case rel => exact ⟨j + 1, by omega, by go_num, HE2.out, hO⟩
            case measure => simp [intOf]; omega
        · have ho : outB lo hi x = false := by unfold outB; rw [hr]; rfl
          have HE2 := hid (show rfZ st ha lo hi v = rfF lo hi (j + 1) (v.drop (j + 1)) by rw [HU.out, ho]; rfl)
          have HR := hid hr
          clear hr ho
          apply own_code hO
          (repeat (first | (with_reducible exact hO) | (with_reducible apply Own.alloc) | (with_reducible apply Own.drew) | ((with_reducible apply Own.set_at); (focus (show _ ≤ _; omega)))))
          have hG := hF; clear hF; clear hO; intro hO
          (try simp only [World.size_alloc1, World.size_drew, Nat.reduceAdd] at hO); (try simp only [upd, updI, List.map_cons, List.map_nil, eq_self, if_true, if_false, reduceIte, Nat.add_eq_left, Nat.left_eq_add, Nat.reduceEqDiff, List.set_cons_zero, List.set_cons_succ, hG] at hO); clear hG
          refine region_own (X := fun _ => True) [] (by kernel_rfl) (hO) (trivial) (by first | exact XStab.true | exact XStab.rd | exact XStab.rdIf) ?_
          clear hO
          refine Sim.sP (i := 0) (d := some 20) (h := ?_)
          refine Sim.sP (i := 1) (d := some 21) (h := ?_)
          refine Sim.sP (i := 2) (d := some 22) (h := ?_)
          refine Sim.sP (i := 3) (d := some 23) (h := ?_)
          refine Sim.sO (i := 4) (d := some 24) (v := ?_) (hy := ?_) (h := ?_)
          rotate_left
          · first | refine Or.inl ⟨by rfl, fun w hO => ?_⟩ | (refine Or.inr ⟨by rfl, ?_⟩; with_reducible rfl)
            first | done | (have hF := hO; (try simp only [Own, Item.Holds, apartI, CellsAt, Nat.reduceAdd, Nat.zero_add, List.mem_cons, List.not_mem_nil, or_false, forall_eq_or_imp, forall_eq, ne_eq, false_imp_iff, implies_true, and_true] at hF); ((have ⟨d0, d1, d2, d3, d4, d5⟩ := noteAt (HA.out.below hO.base) HX.out; rw [HR.out] at d0)); refine Out.same ?_; go_simp; all_goals with_reducible rfl)
          refine Sim.sP (i := 5) (d := some 25) (h := ?_)
          refine Sim.sP (i := 6) (d := some 26) (h := ?_)
          refine Sim.sP (i := 7) (d := some 27) (h := ?_)
          refine Sim.sP (i := 8) (d := some 28) (h := ?_)
          refine Sim.sP (i := 9) (d := some 29) (h := ?_)
          refine Sim.sP (i := 10) (d := some 30) (h := ?_)
          refine Sim.sP (i := 11) (d := some 31) (h := ?_)
          refine Sim.sP (i := 12) (d := some 32) (h := ?_)
          refine Sim.sP (i := 13) (d := some 33) (h := ?_)
          refine Sim.sP (i := 14) (d := some 34) (h := ?_)
          refine Sim.sP (i := 15) (d := some 35) (h := ?_)
          refine Sim.sP (i := 16) (d := some 36) (h := ?_)
          refine Sim.sP (i := 17) (d := some 37) (h := ?_)
          refine Sim.sP (i := 18) (d := some 38) (h := ?_)
          refine Sim.sP (i := 19) (d := some 39) (h := ?_)
          refine Sim.done (by kernel_rfl) (fun w1 hO hX => ?_) _
          (try simp only [World.size_alloc1, World.size_drew, Nat.reduceAdd] at hO); (try simp only [upd, updI, List.map_cons, List.map_nil, eq_self, if_true, if_false, reduceIte, Nat.add_eq_left, Nat.left_eq_add, Nat.reduceEqDiff, List.set_cons_zero, List.set_cons_succ] at hO)
          have hF := hO; (try simp only [Own, Item.Holds, apartI, CellsAt, Nat.reduceAdd, Nat.zero_add, List.mem_cons, List.not_mem_nil, or_false, forall_eq_or_imp, forall_eq, ne_eq, false_imp_iff, implies_true, and_true] at hF)
          go_wp2
          go_roundw
          case rel => exact ⟨j + 1, by omega, by go_num, HE2.out, hO⟩
          case measure => simp [intOf]; omega
  · have HE := hid (show rfZ st ha lo hi v = -1 by unfold rfZ; rw [hbi, hbv]; exact if_neg hok)
    clear hbi hbv hnl
    go_enter Tryd.func24, Tryd.ntmps24
    go_wp2_with fail
    (apply own_code hO; (repeat (first | (with_reducible exact hO) | (with_reducible apply Own.alloc) | (with_reducible apply Own.drew) | ((with_reducible apply Own.set_at); (focus (show _ ≤ _; omega))))); have hG := hF; clear hF; clear hO; intro hO; (try simp only [World.size_alloc1, World.size_drew, Nat.reduceAdd] at hO); (try simp only [upd, updI, List.map_cons, List.map_nil, eq_self, if_true, if_false, reduceIte, Nat.add_eq_left, Nat.left_eq_add, Nat.reduceEqDiff, List.set_cons_zero, List.set_cons_succ, hG] at hO); clear hG; have hF := hO; (try simp only [Own, Item.Holds, apartI, CellsAt, Nat.reduceAdd, Nat.zero_add, List.mem_cons, List.not_mem_nil, or_false, forall_eq_or_imp, forall_eq, ne_eq, false_imp_iff, implies_true, and_true] at hF))
    go_loopw [5] (fun t wr => t = .int .i64 0 ∧ Own w.heap.size (Below w.heap.size w) wr [.blk w.heap.size [.int .i64 st, .int .i64 ha, .int .i64 lo, .int .i64 hi]]) (fun _ _ => 0)
    case atStart => exact ⟨rfl, hO⟩
    case round =>
      clear hO hF
      obtain ⟨rfl, hO⟩ := hrel
      have hF := hO; (try simp only [Own, Item.Holds, apartI, CellsAt, Nat.reduceAdd, Nat.zero_add, List.mem_cons, List.not_mem_nil, or_false, forall_eq_or_imp, forall_eq, ne_eq, false_imp_iff, implies_true, and_true] at hF)
      have hcs : n = 0 ∨ (0 : Int) < n := by omega
      rcases hcs with rfl | hn0
      · go_wp2_with fail
        go_ret
        exact ⟨ret_int HE.out.symm, hO.base⟩
      · cases bi
        · go_wp2_with (first | (go_at_call 13; apply own_at hO; (repeat (first | (with_reducible exact hO) | (with_reducible apply Own.alloc) | (with_reducible apply Own.drew) | ((with_reducible apply Own.set_at); (focus (show _ ≤ _; omega))))); have hG := hF; clear hF; clear hO; intro hO; refine own_call hO (fun hB => HI.out _) ?_; clear hO; intro w1 hO; (try simp only [World.size_alloc1, World.size_drew, Nat.reduceAdd] at hO); (try simp only [upd, updI, List.map_cons, List.map_nil, eq_self, if_true, if_false, reduceIte, Nat.add_eq_left, Nat.left_eq_add, Nat.reduceEqDiff, List.set_cons_zero, List.set_cons_succ, hG] at hO); clear hG; have hF := hO; (try simp only [Own, Item.Holds, apartI, CellsAt, Nat.reduceAdd, Nat.zero_add, List.mem_cons, List.not_mem_nil, or_false, forall_eq_or_imp, forall_eq, ne_eq, false_imp_iff, implies_true, and_true] at hF)) | (go_at_call 25; apply own_at hO; (repeat (first | (with_reducible exact hO) | (with_reducible apply Own.alloc) | (with_reducible apply Own.drew) | ((with_reducible apply Own.set_at); (focus (show _ ≤ _; omega))))); have hG := hF; clear hF; clear hO; intro hO; refine own_call hO (fun hB => HV.out _ hB) ?_; clear hO; intro w1 hO; (try simp only [World.size_alloc1, World.size_drew, Nat.reduceAdd] at hO); (try simp only [upd, updI, List.map_cons, List.map_nil, eq_self, if_true, if_false, reduceIte, Nat.add_eq_left, Nat.left_eq_add, Nat.reduceEqDiff, List.set_cons_zero, List.set_cons_succ, hG] at hO); clear hG; have hF := hO; (try simp only [Own, Item.Holds, apartI, CellsAt, Nat.reduceAdd, Nat.zero_add, List.mem_cons, List.not_mem_nil, or_false, forall_eq_or_imp, forall_eq, ne_eq, false_imp_iff, implies_true, and_true] at hF)))
          go_ret
          exact ⟨ret_int HE.out.symm, hO.base⟩
        · cases bv
          · go_wp2_with (first | (go_at_call 13; apply own_at hO; (repeat (first | (with_reducible exact hO) | (with_reducible apply Own.alloc) | (with_reducible apply Own.drew) | ((with_reducible apply Own.set_at); (focus (show _ ≤ _; omega))))); have hG := hF; clear hF; clear hO; intro hO; refine own_call hO (fun hB => HI.out _) ?_; clear hO; intro w1 hO; (try simp only [World.size_alloc1, World.size_drew, Nat.reduceAdd] at hO); (try simp only [upd, updI, List.map_cons, List.map_nil, eq_self, if_true, if_false, reduceIte, Nat.add_eq_left, Nat.left_eq_add, Nat.reduceEqDiff, List.set_cons_zero, List.set_cons_succ, hG] at hO); clear hG; have hF := hO; (try simp only [Own, Item.Holds, apartI, CellsAt, Nat.reduceAdd, Nat.zero_add, List.mem_cons, List.not_mem_nil, or_false, forall_eq_or_imp, forall_eq, ne_eq, false_imp_iff, implies_true, and_true] at hF)) | (go_at_call 25; apply own_at hO; (repeat (first | (with_reducible exact hO) | (with_reducible apply Own.alloc) | (with_reducible apply Own.drew) | ((with_reducible apply Own.set_at); (focus (show _ ≤ _; omega))))); have hG := hF; clear hF; clear hO; intro hO; refine own_call hO (fun hB => HV.out _ hB) ?_; clear hO; intro w1 hO; (try simp only [World.size_alloc1, World.size_drew, Nat.reduceAdd] at hO); (try simp only [upd, updI, List.map_cons, List.map_nil, eq_self, if_true, if_false, reduceIte, Nat.add_eq_left, Nat.left_eq_add, Nat.reduceEqDiff, List.set_cons_zero, List.set_cons_succ, hG] at hO); clear hG; have hF := hO; (try simp only [Own, Item.Holds, apartI, CellsAt, Nat.reduceAdd, Nat.zero_add, List.mem_cons, List.not_mem_nil, or_false, forall_eq_or_imp, forall_eq, ne_eq, false_imp_iff, implies_true, and_true] at hF)))
            go_ret
            exact ⟨ret_int HE.out.symm, hO.base⟩
          · exact absurd rfl hok
end Go.Proofs.YtafnekfddindjaaDoor
