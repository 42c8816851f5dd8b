/- Chapter 16 in the program: MeetTicks. -/
import Derived.Test.YtlbagckpmpdkiaaWalks16K
import Derived.Test.YtlbagckpmpdkiaaWalks5A
import Derived.Test.YtlbagckpmpdkiaaCon16
namespace Go.Proofs.Ytlbagckpmpdkiaa
set_option linter.unusedSimpArgs false
set_option linter.unusedVariables false
set_option maxRecDepth 8000
open Go.RowKit
attribute [local go_sem] Oper.semAt_some

theorem intC_snoc16 (v : List Int) (z : Int) : intC v ++ [.int .i64 z] = intC (v ++ [z]) := by unfold intC; rw [List.map_append]; rfl
theorem one16t {z : Int} : ∀ u ∈ [Value.int .i64 z], u.oneCell' = true := by
  intro u hu
  rw [List.mem_singleton.1 hu]
  rfl

set_option maxRecDepth 20000 in
set_option maxHeartbeats 16000000 in
theorem mtI_in (va vb : Value) (a b : List Nt) (k m : Nat) (w : World) (hk : a.length = k) (hm : b.length = m) (ha : SlAt w va k 6 (vcC a)) (hb : SlAt w vb m 6 (vcC b)) (h1 : voB a = true) (h2 : voB b = true) :
    Calls Try.prog 7 #[va, vb] w (RowOut 3 1 (onL a b (moZ a b)).length (intC (onL a b (moZ a b))) w) := by
  have hO := Own.start w
  have hF := True.intro
  have hU := True.intro
  obtain ⟨i0, hi0, hz0, hz1, hz2⟩ := info_parts infoI10
  obtain ⟨A, c, rfl, nb, _⟩ := ha.open
  obtain ⟨A', c', rfl, mb, _⟩ := hb.open
  have hk60 : k ≤ 60 := by have := (voB_iff.1 h1).2; omega
  have hm60 : m ≤ 60 := by have := (voB_iff.1 h2).2; omega
  have HA := hid ha
  have HB := hid hb
  have HN := hid (And.intro hk hm)
  have HVO := hid (And.intro h1 h2)
  have HV1 := hid (voI_is hk ha (by omega) h1)
  have HV2 := hid (voI_is hm hb (by omega) h2)
  clear ha hb hk hm h1 h2
  refine (callsIn_wide (n := 3)).1 ?_
  refine callsIn_of_wp_marks Try.func7 rfl trivial ?_ rfl
  simp only [Try.ntmps7, List.size_toArray, List.length_cons, List.length_nil, Nat.reduceAdd, Nat.reduceSub, Array.replicate_succ, Array.replicate_zero, List.push_toArray, List.append_toArray, List.nil_append, List.cons_append]
  gi_wp2_with fail
  (refine ⟨trivial, ?_⟩; gi_at_call 16; apply own_atI hO; (repeat (first | (with_reducible exact hO) | (with_reducible apply Own.alloc) | (with_reducible apply Own.drew) | ((with_reducible apply Own.set_at); (focus (show _ ≤ _; omega))))); have hG := hF; clear hF; clear hO; intro hO; refine own_callI hO (fun hB => HV1.out _ hB) ?_; clear hO; intro w1 hO; (try simp only [World.size_alloc1, World.size_drew, Nat.reduceAdd] at hO); (try simp only [upd, updI, List.map_cons, List.map_nil, eq_self, if_true, if_false, reduceIte, Nat.add_eq_left, Nat.left_eq_add, Nat.reduceEqDiff, List.set_cons_zero, List.set_cons_succ, hU, hG] at hO); clear hG; have hF := hO; (try simp only [Own, Item.Holds, apart_bb, apart_br, apart_rb, CellsAt, Nat.reduceAdd, Nat.zero_add, List.mem_cons, List.not_mem_nil, or_false, forall_eq_or_imp, forall_eq, ne_eq, false_imp_iff, implies_true, and_true] at hF))
  gi_wp2_with fail
  (refine ⟨trivial, ?_⟩; gi_at_call 16; apply own_atI hO; (repeat (first | (with_reducible exact hO) | (with_reducible apply Own.alloc) | (with_reducible apply Own.drew) | ((with_reducible apply Own.set_at); (focus (show _ ≤ _; omega))))); have hG := hF; clear hF; clear hO; intro hO; refine own_callI hO (fun hB => HV2.out _ hB) ?_; clear hO; intro w1 hO; (try simp only [World.size_alloc1, World.size_drew, Nat.reduceAdd] at hO); (try simp only [upd, updI, List.map_cons, List.map_nil, eq_self, if_true, if_false, reduceIte, Nat.add_eq_left, Nat.left_eq_add, Nat.reduceEqDiff, List.set_cons_zero, List.set_cons_succ, hU, hG] at hO); clear hG; have hF := hO; (try simp only [Own, Item.Holds, apart_bb, apart_br, apart_rb, CellsAt, Nat.reduceAdd, Nat.zero_add, List.mem_cons, List.not_mem_nil, or_false, forall_eq_or_imp, forall_eq, ne_eq, false_imp_iff, implies_true, and_true] at hF))
  gi_wp2_with ((refine ⟨trivial, ?_⟩; gi_at_call 17; apply own_atI hO; (repeat (first | (with_reducible exact hO) | (with_reducible apply Own.alloc) | (with_reducible apply Own.drew) | ((with_reducible apply Own.set_at); (focus (show _ ≤ _; omega))))); have hG := hF; clear hF; clear hO; intro hO; refine callsIn_wide.2 (mgI_any A A' k c m c' hO ?_); clear hO; intro q1 q2 w4 hO; (try simp only [World.size_alloc1, World.size_drew, Nat.reduceAdd] at hO); (try simp only [upd, updI, List.map_cons, List.map_nil, eq_self, if_true, if_false, reduceIte, Nat.add_eq_left, Nat.left_eq_add, Nat.reduceEqDiff, List.set_cons_zero, List.set_cons_succ, hG] at hO); clear hG; have hF := hO; (try simp only [Own, Item.Holds, apart_bb, apart_br, apart_rb, CellsAt, Nat.reduceAdd, Nat.zero_add, List.mem_cons, List.not_mem_nil, or_false, forall_eq_or_imp, forall_eq, ne_eq, false_imp_iff, implies_true, and_true] at hF)))
  obtain ⟨p5, hp5⟩ : ∃ x, w1.heap.size = x := ⟨_, rfl⟩
  rw [hp5] at hO ⊢
  clear hp5 hF
  have hO3 : Own w.heap.size (Below w.heap.size w) w4 ([.blk q2 [.slice A' m c'], .blk q1 [.slice A k c]] ++ [.blk p5 [.slice none 0 0], .row 3 1 (.slice none 0 0) 0 []]) := (Own.nilRow 3 1 hO).perm (List.perm_append_comm (l₁ := [_]) (l₂ := [_, _, _]))
  clear hO
  refine own_rangeFunc (n := w.heap.size) rfl (by omega) (gf := 24) (lb := #[.pointer (some ⟨q1, 0, none⟩), .pointer (some ⟨q2, 0, none⟩)]) rfl trivial (enters_of Try.func24 (by kernel_rfl) rfl)
    (meI_seq (.slice A k c) (.slice A' m c') a b k m w.heap.size (3 - 1) q1 q2 (by omega) HN.out.1 HN.out.2 HVO.out.1 HVO.out.2) (fun _ => rfl) (Firm.plain w) (fun W hW => ⟨HA.out.below hW, HB.out.below hW⟩)
    (fun pre U => ∃ v1, U = [.blk p5 [v1], .row 3 1 v1 pre.length (intC (pre.map Mee.t))])
    (fun _ _ _ => False)
    (T0 := [.blk p5 [.slice none 0 0], .row 3 1 (.slice none 0 0) 0 []])
    ⟨_, rfl⟩ hO3
    (fun pre x a' U => ∃ q v1, U = [.blk q [.int .i64 x.t, .bool x.x.r, .int .i64 x.x.s, .int .i64 x.x.a, .int .i64 x.x.o, .int .i64 x.x.t, .bool x.x.y, .bool x.y.r, .int .i64 x.y.s, .int .i64 x.y.a, .int .i64 x.y.o, .int .i64 x.y.t, .bool x.y.y], .blk p5 [v1], .row 3 1 v1 pre.length (intC (pre.map Mee.t))] ∧ a' = { tmps := #[.slice A k c, .slice A' m c', undef, undef, .slice none 0 0, .pointer (some ⟨p5, 0, none⟩), .pointer (some ⟨q, 0, none⟩), .slice A k c, .bool true, .bool false, .bool false, .slice A' m c', .bool true, .bool false, .bool false, .slice A k c, .slice A' m c', .func (.func 24) #[] #[.pointer (some ⟨q1, 0, none⟩), .pointer (some ⟨q2, 0, none⟩)], meV x, undef, undef, undef, undef, undef, undef], defers := [] }) ?assign ?body ?done ?stop
  case assign =>
    rintro l M pre x _ B1 W hB1 ⟨v1, rfl⟩ hO1 _
    have h9 := hO1.alloc (t := 46) (vs := [.int .i64 x.t, .bool x.x.r, .int .i64 x.x.s, .int .i64 x.x.a, .int .i64 x.x.o, .int .i64 x.x.t, .bool x.x.y, .bool x.y.r, .int .i64 x.y.s, .int .i64 x.y.a, .int .i64 x.y.o, .int .i64 x.y.t, .bool x.y.y])
    clear hO1 hO3
    gi_wp2
    exact ⟨_, ⟨_, v1, rfl, rfl⟩, h9⟩
  case body =>
    rintro l M pre x _ _ B1 W hB1 ⟨q, v1, rfl, rfl⟩ hO1 hlen
    clear hO3
    have hO := hO1
    clear hO1
    simp only [List.cons_append, List.nil_append] at hO
    obtain ⟨A2, cap2, rfl⟩ := hO.2.2.row_form
    have hlen9 : pre.length ≤ 46080 := by
      have g1 := me_len a b (moZ a b)
      have g2 := onL_len_le a b (moZ a b)
      have g3 := sum_all16 HVO.out.1
      have g4 := sum_all16 HVO.out.2
      have g5 : (moZ a b : Int) = max (sumT a) (sumT b) := by unfold moZ; omega
      have g6 : (meL a b).length = (meN a b (moZ a b)).length := rfl
      omega
    have hF := True.intro
    have hF := hO; (try simp only [Own, Item.Holds, apart_bb, apart_br, apart_rb, CellsAt, Nat.reduceAdd, Nat.zero_add, List.mem_cons, List.not_mem_nil, or_false, forall_eq_or_imp, forall_eq, ne_eq, false_imp_iff, implies_true, and_true] at hF)
    clear hlen
    gi_wp2_with (gi_at_builtin; apply own_listI hO; (repeat (first | (with_reducible exact hO) | (with_reducible apply Own.alloc) | (with_reducible apply Own.drew) | ((with_reducible apply Own.set_at); (focus (show _ ≤ _; omega))))); have hG := hF; clear hF; clear hO; intro hO; (try simp only [World.size_alloc1, World.size_drew, Nat.reduceAdd] at hO); (try simp only [upd, updI, List.map_cons, List.map_nil, eq_self, if_true, if_false, reduceIte, Nat.add_eq_left, Nat.left_eq_add, Nat.reduceEqDiff, List.set_cons_zero, List.set_cons_succ, hU, hG] at hO); clear hG; (try simp only [World.size_setCell] at hO); have hF := hO; (try simp only [Own, Item.Holds, apart_bb, apart_br, apart_rb, CellsAt, Nat.reduceAdd, Nat.zero_add, List.mem_cons, List.not_mem_nil, or_false, forall_eq_or_imp, forall_eq, ne_eq, false_imp_iff, implies_true, and_true] at hF); replace hO := (Own.sub (.cons_cons _ (.cons _ (.refl _))) hO).perm ((List.Perm.swap _ _ _).cons _); refine wpListIn_append_item rfl _ _ 24 rfl 3 i0 (.int .i64 0) 1 8 Try.underlying24 hi0 hz0 hz1 hz2 rfl (by decide) rfl rfl hO rfl one16t (by unfold maxLen; omega) (by omega) ?_; clear hO hF; intro v5 w5 hO _; obtain ⟨A5, cap5, rfl⟩ := hO.row_form; have hF := hO; (try simp only [Own, Item.Holds, apart_bb, apart_br, apart_rb, CellsAt, Nat.reduceAdd, Nat.zero_add, List.mem_cons, List.not_mem_nil, or_false, forall_eq_or_imp, forall_eq, ne_eq, false_imp_iff, implies_true, and_true] at hF))
    have h9 := (Own.set_mem (i := 0) (u := .slice A5 (pre.length + 1) cap5) [_] hO).perm (List.Perm.swap _ _ _)
    exact ⟨_, ⟨_, rfl⟩, by rw [List.length_append, List.map_append, List.map_cons, List.map_nil, ← intC_snoc16]; exact h9⟩
  case done =>
    rintro D xs _ W rfl ⟨v1, rfl⟩ hO1
    have hO := hO1.perm List.perm_append_comm
    clear hO1 hO3
    simp only [List.cons_append, List.nil_append] at hO
    obtain ⟨A2, cap2, rfl⟩ := (hO.2.2).row_form
    have hF := True.intro
    have hF := hO; (try simp only [Own, Item.Holds, apart_bb, apart_br, apart_rb, CellsAt, Nat.reduceAdd, Nat.zero_add, List.mem_cons, List.not_mem_nil, or_false, forall_eq_or_imp, forall_eq, ne_eq, false_imp_iff, implies_true, and_true] at hF)
    have h9 := hO
    have HE := hid (show (meL a b).map Mee.t = onL a b (moZ a b) ∧ (meL a b).length = (onL a b (moZ a b)).length from ⟨meN_t a b _, me_len a b _⟩)
    rw [HE.out.1, HE.out.2] at h9 hO
    rw [HE.out.2] at hF
    clear hO
    gi_wp2
    refine own_leaveM (v := .slice A2 (onL a b (moZ a b)).length cap2) (Firm.plain w) rfl h9 (fun w' h => ?_) (fun w' h => ?_)
    · have hO := h
      have hF := True.intro
      clear h h9
      have hF := hO; (try simp only [Own, Item.Holds, apart_bb, apart_br, apart_rb, CellsAt, Nat.reduceAdd, Nat.zero_add, List.mem_cons, List.not_mem_nil, or_false, forall_eq_or_imp, forall_eq, ne_eq, false_imp_iff, implies_true, and_true] at hF)
      simp [results, Try.results7, go_sem, hF]
    · exact ⟨_, rfl, h.2.2.1.1, h.base⟩
  case stop =>
    rintro D cd pre _ W hpre hx hO1
    exact hx.elim

set_option maxHeartbeats 4000000 in
theorem mtI_out (va vb : Value) (a b : List Nt) (n m : Nat) (w : World) (hk : a.length = n) (hm : b.length = m) (ha : SlAt w va n 6 (vcC a)) (hb : SlAt w vb m 6 (vcC b)) (hn : n ≤ 1048576) (hm9 : m ≤ 1048576) (hv : bvB a b = false) :
    Calls Try.prog 7 #[va, vb] w (RowOut 3 1 0 [] w) := by
  have hO := Own.start w
  have hF := True.intro
  cases hvo : voB a
  · have HV := hid (voI_is hk ha hn hvo)
    clear ha hb hk hm hv hvo
    go_enter Try.func7, Try.ntmps7
    go_wp2_with (go_at_call 16; apply own_at hO; (repeat (first | (with_reducible exact hO) | (with_reducible apply Own.alloc) | (with_reducible apply Own.drew) | ((with_reducible apply Own.set_at); (focus (show _ ≤ _; omega))))); have hG := hF; clear hF; clear hO; intro hO; refine own_call hO (fun hB => HV.out _ hB) ?_; clear hO; intro w1 hO; (try simp only [World.size_alloc1, World.size_drew, Nat.reduceAdd] at hO); (try simp only [upd, updI, List.map_cons, List.map_nil, eq_self, if_true, if_false, reduceIte, Nat.add_eq_left, Nat.left_eq_add, Nat.reduceEqDiff, List.set_cons_zero, List.set_cons_succ, hG] at hO); clear hG; have hF := hO; (try simp only [Own, Item.Holds, apartI, CellsAt, Nat.reduceAdd, Nat.zero_add, List.mem_cons, List.not_mem_nil, or_false, forall_eq_or_imp, forall_eq, ne_eq, false_imp_iff, implies_true, and_true] at hF))
    apply own_end hO
    (repeat (first | (with_reducible exact hO) | (with_reducible apply Own.alloc) | (with_reducible apply Own.drew) | ((with_reducible apply Own.set_at); (focus (show _ ≤ _; omega)))))
    have hG := hF; clear hF; clear hO; intro hO
    refine own_ret (v := .slice none 0 0) hO ?_ rfl (fun hO => ⟨_, rfl, ⟨by simp, .inl ⟨rfl, rfl⟩⟩, hO.base⟩)
    clear hO; intro w1 hO
    (try simp only [World.size_alloc1, World.size_drew, Nat.reduceAdd] at hO); (try simp only [upd, updI, List.map_cons, List.map_nil, eq_self, if_true, if_false, reduceIte, Nat.add_eq_left, Nat.left_eq_add, Nat.reduceEqDiff, List.set_cons_zero, List.set_cons_succ, hG] at hO); clear hG
    have hF := hO; (try simp only [Own, Item.Holds, apartI, CellsAt, Nat.reduceAdd, Nat.zero_add, List.mem_cons, List.not_mem_nil, or_false, forall_eq_or_imp, forall_eq, ne_eq, false_imp_iff, implies_true, and_true] at hF)
    simp [results, Try.results7, go_sem, hF]
  · have hvb : voB b = false := by unfold bvB at hv; rw [hvo] at hv; simpa using hv
    have HV := hid (voI_is hk ha hn hvo)
    have HW := hid (voI_is hm hb hm9 hvb)
    clear ha hb hk hm hv hvo hvb
    go_enter Try.func7, Try.ntmps7
    go_wp2_with fail
    (go_at_call 16; apply own_at hO; (repeat (first | (with_reducible exact hO) | (with_reducible apply Own.alloc) | (with_reducible apply Own.drew) | ((with_reducible apply Own.set_at); (focus (show _ ≤ _; omega))))); have hG := hF; clear hF; clear hO; intro hO; refine own_call hO (fun hB => HV.out _ hB) ?_; clear hO; intro w1 hO; (try simp only [World.size_alloc1, World.size_drew, Nat.reduceAdd] at hO); (try simp only [upd, updI, List.map_cons, List.map_nil, eq_self, if_true, if_false, reduceIte, Nat.add_eq_left, Nat.left_eq_add, Nat.reduceEqDiff, List.set_cons_zero, List.set_cons_succ, hG] at hO); clear hG; have hF := hO; (try simp only [Own, Item.Holds, apartI, CellsAt, Nat.reduceAdd, Nat.zero_add, List.mem_cons, List.not_mem_nil, or_false, forall_eq_or_imp, forall_eq, ne_eq, false_imp_iff, implies_true, and_true] at hF))
    go_wp2_with (go_at_call 16; apply own_at hO; (repeat (first | (with_reducible exact hO) | (with_reducible apply Own.alloc) | (with_reducible apply Own.drew) | ((with_reducible apply Own.set_at); (focus (show _ ≤ _; omega))))); have hG := hF; clear hF; clear hO; intro hO; refine own_call hO (fun hB => HW.out _ hB) ?_; clear hO; intro w1 hO; (try simp only [World.size_alloc1, World.size_drew, Nat.reduceAdd] at hO); (try simp only [upd, updI, List.map_cons, List.map_nil, eq_self, if_true, if_false, reduceIte, Nat.add_eq_left, Nat.left_eq_add, Nat.reduceEqDiff, List.set_cons_zero, List.set_cons_succ, hG] at hO); clear hG; have hF := hO; (try simp only [Own, Item.Holds, apartI, CellsAt, Nat.reduceAdd, Nat.zero_add, List.mem_cons, List.not_mem_nil, or_false, forall_eq_or_imp, forall_eq, ne_eq, false_imp_iff, implies_true, and_true] at hF))
    apply own_end hO
    (repeat (first | (with_reducible exact hO) | (with_reducible apply Own.alloc) | (with_reducible apply Own.drew) | ((with_reducible apply Own.set_at); (focus (show _ ≤ _; omega)))))
    have hG := hF; clear hF; clear hO; intro hO
    refine own_ret (v := .slice none 0 0) hO ?_ rfl (fun hO => ⟨_, rfl, ⟨by simp, .inl ⟨rfl, rfl⟩⟩, hO.base⟩)
    clear hO; intro w1 hO
    (try simp only [World.size_alloc1, World.size_drew, Nat.reduceAdd] at hO); (try simp only [upd, updI, List.map_cons, List.map_nil, eq_self, if_true, if_false, reduceIte, Nat.add_eq_left, Nat.left_eq_add, Nat.reduceEqDiff, List.set_cons_zero, List.set_cons_succ, hG] at hO); clear hG
    have hF := hO; (try simp only [Own, Item.Holds, apartI, CellsAt, Nat.reduceAdd, Nat.zero_add, List.mem_cons, List.not_mem_nil, or_false, forall_eq_or_imp, forall_eq, ne_eq, false_imp_iff, implies_true, and_true] at hF)
    simp [results, Try.results7, go_sem, hF]

theorem mtI_any (va vb : Value) (a b : List Nt) (w : World) (ha : SlAt w va a.length 6 (vcC a)) (hb : SlAt w vb b.length 6 (vcC b)) (hn : a.length ≤ 1048576) (hm : b.length ≤ 1048576) :
    Calls Try.prog 7 #[va, vb] w (RowOut 3 1 (mtL a b).length (intC (mtL a b)) w) := by
  cases hv : bvB a b
  · have hl : mtL a b = [] := by unfold mtL; rw [hv]; rfl
    rw [hl]
    exact mtI_out va vb a b _ _ w rfl rfl ha hb hn hm hv
  · have hl : mtL a b = onL a b (moZ a b) := by unfold mtL; rw [if_pos hv]
    rw [hl]
    unfold bvB at hv
    rw [Bool.and_eq_true] at hv
    exact mtI_in va vb a b _ _ w rfl rfl ha hb hv.1 hv.2
theorem mtI_C (w : World) : CMt 7 w := fun va vb a b W _ ha hb hn hm => mtI_any va vb a b W ha hb hn hm
end Go.Proofs.Ytlbagckpmpdkiaa
