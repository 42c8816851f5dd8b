/- Chapter 16 in the program: MeetFault. -/
import Derived.Test.YtmkhpafcgobfhaaDoorWalks16K
import Derived.Test.YtmkhpafcgobfhaaDoorWalks16D
import Derived.Test.YtmkhpafcgobfhaaDoorWalks5A
import Derived.Test.YtmkhpafcgobfhaaDoorCon16
namespace Go.Proofs.YtmkhpafcgobfhaaDoor
set_option linter.unusedSimpArgs false
set_option linter.unusedVariables false
set_option maxRecDepth 8000
open Go.RowKit
attribute [local go_sem] Oper.semAt_some

/-- A meeting is of notes of the voices, or of silence. -/
theorem me_ok {a b : List Nt} (h1 : voB a = true) (h2 : voB b = true) {x : Mee} (hx : x ∈ meL a b) : (x.x = rsE ∨ nvB x.x = true) ∧ (x.y = rsE ∨ nvB x.y = true) ∧ ∃ t, 0 ≤ t ∧ x = mkM a b t := by
  obtain ⟨t, ht, rfl⟩ := List.mem_map.1 hx
  exact ⟨nt_ok h1 t, nt_ok h2 t, t, (onL_mem.1 ht).1, rfl⟩
theorem sd_lt16 {v : List Nt} (h : voB v = true) {t : Int} (hr : (ntT v t).r = false) : -100 < sdZ v t := by
  rw [sd_nt, hr, if_neg (by decide)]
  rcases nt_ok h t with e | e
  · rw [e] at hr; cases hr
  · have := key_bd16 e; omega
theorem mf_fd {a b : List Nt} (h1 : voB a = true) (h2 : voB b = true) : mfZ a b = fdL (meL a b) := by
  unfold mfZ mtL
  rw [if_pos (by unfold bvB; rw [h1, h2]; rfl)]
  exact (fd_is fun t _ => dis_is (sd_lt16 h1) (sd_lt16 h2)).symm

/-- A call in the body of a range over a function, by its plain contract. -/
theorem own_callIR {P : Program} {n d l : Nat} {B : World → Prop} {W : World} {L : List Item} {f : FuncId} {args : Array Value} {v : Value} {K : Ending → World → Prop}
    (hO : Own n B W L) (h : B W → Calls P f args W fun e w' => e = .returned v ∧ Below W.heap.size W w') (k : ∀ w1, Own n B w1 L → K (.returned v) w1) : CallsIn (Fence.wide.inRound l) d P f args W K :=
  own_callI (d := d) hO h k

set_option maxRecDepth 20000 in
set_option maxHeartbeats 16000000 in
theorem mfI_in (va vb : Value) (a b : List Nt) (k m : Nat) (z : Int) (w : World) (hT : TabH w) (hk : a.length = k) (hm : b.length = m) (ha : SlAt w va k 6 (vcC a)) (hb : SlAt w vb m 6 (vcC b)) (h1 : voB a = true) (h2 : voB b = true) (hz : fdL (meL a b) = z) :
    Calls Tryd.prog 24 #[va, vb] w fun e w' => e = .returned (.int .i64 z) ∧ Below w.heap.size w w' := by
  have hO := Own.start w
  have hF := True.intro
  have hU := True.intro
  obtain ⟨A, c, rfl, nb, _⟩ := ha.open
  obtain ⟨A', c', rfl, mb, _⟩ := hb.open
  have hk60 : k ≤ 60 := by have := (voB_iff.1 h1).2; omega
  have hm60 : m ≤ 60 := by have := (voB_iff.1 h2).2; omega
  have HA := hid ha
  have HB := hid hb
  have HN := hid (And.intro hk hm)
  have HVO := hid (And.intro h1 h2)
  have HT := hid hT
  have HZ := hid hz
  have HV1 := hid (voI_is hk ha (by omega) h1)
  have HV2 := hid (voI_is hm hb (by omega) h2)
  clear ha hb hk hm h1 h2 hT hz
  refine (callsIn_wide (n := 3)).1 ?_
  refine callsIn_of_wp_marks Tryd.func24 rfl trivial ?_ rfl
  simp only [Tryd.ntmps24, List.size_toArray, List.length_cons, List.length_nil, Nat.reduceAdd, Nat.reduceSub, Array.replicate_succ, Array.replicate_zero, List.push_toArray, List.append_toArray, List.nil_append, List.cons_append]
  gi_wp2_with fail
  (refine ⟨trivial, ?_⟩; gi_at_call 32; apply own_atI hO; (repeat (first | (with_reducible exact hO) | (with_reducible apply Own.alloc) | (with_reducible apply Own.drew) | ((with_reducible apply Own.set_at); (focus (show _ ≤ _; omega))))); have hG := hF; clear hF; clear hO; intro hO; refine own_callI hO (fun hB => HV1.out _ hB) ?_; clear hO; intro w1 hO; (try simp only [World.size_alloc1, World.size_drew, Nat.reduceAdd] at hO); (try simp only [upd, updI, List.map_cons, List.map_nil, eq_self, if_true, if_false, reduceIte, Nat.add_eq_left, Nat.left_eq_add, Nat.reduceEqDiff, List.set_cons_zero, List.set_cons_succ, hU, hG] at hO); clear hG; have hF := hO; (try simp only [Own, Item.Holds, apart_bb, apart_br, apart_rb, CellsAt, Nat.reduceAdd, Nat.zero_add, List.mem_cons, List.not_mem_nil, or_false, forall_eq_or_imp, forall_eq, ne_eq, false_imp_iff, implies_true, and_true] at hF))
  gi_wp2_with fail
  (refine ⟨trivial, ?_⟩; gi_at_call 32; apply own_atI hO; (repeat (first | (with_reducible exact hO) | (with_reducible apply Own.alloc) | (with_reducible apply Own.drew) | ((with_reducible apply Own.set_at); (focus (show _ ≤ _; omega))))); have hG := hF; clear hF; clear hO; intro hO; refine own_callI hO (fun hB => HV2.out _ hB) ?_; clear hO; intro w1 hO; (try simp only [World.size_alloc1, World.size_drew, Nat.reduceAdd] at hO); (try simp only [upd, updI, List.map_cons, List.map_nil, eq_self, if_true, if_false, reduceIte, Nat.add_eq_left, Nat.left_eq_add, Nat.reduceEqDiff, List.set_cons_zero, List.set_cons_succ, hU, hG] at hO); clear hG; have hF := hO; (try simp only [Own, Item.Holds, apart_bb, apart_br, apart_rb, CellsAt, Nat.reduceAdd, Nat.zero_add, List.mem_cons, List.not_mem_nil, or_false, forall_eq_or_imp, forall_eq, ne_eq, false_imp_iff, implies_true, and_true] at hF))
  gi_wp2_with ((refine ⟨trivial, ?_⟩; gi_at_call 55; apply own_atI hO; (repeat (first | (with_reducible exact hO) | (with_reducible apply Own.alloc) | (with_reducible apply Own.drew) | ((with_reducible apply Own.set_at); (focus (show _ ≤ _; omega))))); have hG := hF; clear hF; clear hO; intro hO; refine callsIn_wide.2 (mgI_any A A' k c m c' hO ?_); clear hO; intro q1 q2 w4 hO; (try simp only [World.size_alloc1, World.size_drew, Nat.reduceAdd] at hO); (try simp only [upd, updI, List.map_cons, List.map_nil, eq_self, if_true, if_false, reduceIte, Nat.add_eq_left, Nat.left_eq_add, Nat.reduceEqDiff, List.set_cons_zero, List.set_cons_succ, hG] at hO); clear hG; have hF := hO; (try simp only [Own, Item.Holds, apart_bb, apart_br, apart_rb, CellsAt, Nat.reduceAdd, Nat.zero_add, List.mem_cons, List.not_mem_nil, or_false, forall_eq_or_imp, forall_eq, ne_eq, false_imp_iff, implies_true, and_true] at hF)))
  obtain ⟨p4, hp4⟩ : ∃ x, w.heap.size = x := ⟨_, rfl⟩
  have hO3 : Own w.heap.size (Below w.heap.size w) w4 ([.blk q2 [.slice A' m c'], .blk q1 [.slice A k c]] ++ [.blk p4 [.int .i64 0]]) := by rw [← hp4]; exact hO
  have HP4 := hid hp4
  rw [show (Value.pointer (some ⟨w.heap.size, 0, none⟩)) = .pointer (some ⟨p4, 0, none⟩) by rw [hp4]]
  clear hO hF hp4
  refine own_rangeFunc (n := w.heap.size) rfl (by omega) (gf := 80) (lb := #[.pointer (some ⟨q1, 0, none⟩), .pointer (some ⟨q2, 0, none⟩)]) rfl trivial (enters_of Tryd.func80 (by kernel_rfl) rfl)
    (meI_seq (.slice A k c) (.slice A' m c') a b k m w.heap.size (3 - 1) q1 q2 (by omega) HN.out.1 HN.out.2 HVO.out.1 HVO.out.2) (fun _ => rfl) (Firm.plain w) (fun W hW => ⟨HA.out.below hW, HB.out.below hW⟩)
    (fun pre U => U = [.blk p4 [.int .i64 0]] ∧ ∀ x ∈ pre, disB x = false)
    (fun cd pre U => cd = .ret ∧ ∃ pre0 x q vs, pre = pre0 ++ [x] ∧ (∀ y ∈ pre0, disB y = false) ∧ disB x = true ∧ U = [.blk q vs, .blk p4 [.int .i64 x.t]])
    (T0 := [.blk p4 [.int .i64 0]])
    ⟨rfl, by simp⟩ hO3
    (fun pre x a' U => ∃ q, U = [.blk q [.int .i64 x.t, .bool x.x.r, .int .i64 x.x.s, .int .i64 x.x.a, .int .i64 x.x.o, .int .i64 x.x.t, .bool x.x.y, .bool x.y.r, .int .i64 x.y.s, .int .i64 x.y.a, .int .i64 x.y.o, .int .i64 x.y.t, .bool x.y.y], .blk p4 [.int .i64 0]] ∧ (∀ y ∈ pre, disB y = false) ∧ a' = { tmps := #[.slice A k c, .slice A' m c', undef, undef, .pointer (some ⟨p4, 0, none⟩), .pointer (some ⟨q, 0, none⟩), .slice A k c, .bool true, .bool false, .bool false, .slice A' m c', .bool true, .bool false, .bool false, .slice A k c, .slice A' m c', .func (.func 80) #[] #[.pointer (some ⟨q1, 0, none⟩), .pointer (some ⟨q2, 0, none⟩)], meV x, undef, undef, undef, undef], defers := [] }) ?assign ?body ?done ?stop
  case assign =>
    rintro l M pre x _ B1 W hB1 ⟨rfl, hpre⟩ hO1 _
    have h9 := hO1.alloc (t := 78) (vs := [.int .i64 x.t, .bool x.x.r, .int .i64 x.x.s, .int .i64 x.x.a, .int .i64 x.x.o, .int .i64 x.x.t, .bool x.x.y, .bool x.y.r, .int .i64 x.y.s, .int .i64 x.y.a, .int .i64 x.y.o, .int .i64 x.y.t, .bool x.y.y])
    clear hO1 hO3
    gi_wp2
    exact ⟨_, ⟨_, rfl, hpre, rfl⟩, h9⟩
  case body =>
    rintro l M pre x _ _ B1 W hB1 ⟨q, rfl, hpre, rfl⟩ hO1 _
    clear hO3
    have hO := hO1
    clear hO1
    simp only [List.cons_append, List.nil_append] at hO
    have HDI := hid (fun W (hW : B1 W) => diI_any x W (HT.out.below (hB1 _ hW)))
    have HPRE := hid hpre
    obtain ⟨b0, hb0⟩ : ∃ b0, disB x = b0 := ⟨_, rfl⟩
    have HB0 := hid hb0
    rw [hb0] at HDI
    clear hpre hb0
    have hF := True.intro
    have hF := hO; (try simp only [Own, Item.Holds, apart_bb, apart_br, apart_rb, CellsAt, Nat.reduceAdd, Nat.zero_add, List.mem_cons, List.not_mem_nil, or_false, forall_eq_or_imp, forall_eq, ne_eq, false_imp_iff, implies_true, and_true] at hF)
    cases b0
    · gi_wp2_with (refine ⟨trivial, ?_⟩; gi_at_call 56; apply own_atI hO; (repeat (first | (with_reducible exact hO) | (with_reducible apply Own.alloc) | (with_reducible apply Own.drew) | ((with_reducible apply Own.set_at); (focus (show _ ≤ _; omega))))); have hG := hF; clear hF; clear hO; intro hO; refine own_callIR hO (fun hB => HDI.out _ hB) ?_; clear hO; intro w1 hO; (try simp only [World.size_alloc1, World.size_drew, Nat.reduceAdd] at hO); (try simp only [upd, updI, List.map_cons, List.map_nil, eq_self, if_true, if_false, reduceIte, Nat.add_eq_left, Nat.left_eq_add, Nat.reduceEqDiff, List.set_cons_zero, List.set_cons_succ, hU, hG] at hO); clear hG; have hF := hO; (try simp only [Own, Item.Holds, apart_bb, apart_br, apart_rb, CellsAt, Nat.reduceAdd, Nat.zero_add, List.mem_cons, List.not_mem_nil, or_false, forall_eq_or_imp, forall_eq, ne_eq, false_imp_iff, implies_true, and_true] at hF))
      exact ⟨_, ⟨rfl, fun y hy => by rcases List.mem_append.1 hy with h | h; exact HPRE.out y h; rw [List.mem_singleton.1 h]; exact HB0.out⟩, hO.2⟩
    · gi_wp2_with (refine ⟨trivial, ?_⟩; gi_at_call 56; apply own_atI hO; (repeat (first | (with_reducible exact hO) | (with_reducible apply Own.alloc) | (with_reducible apply Own.drew) | ((with_reducible apply Own.set_at); (focus (show _ ≤ _; omega))))); have hG := hF; clear hF; clear hO; intro hO; refine own_callIR hO (fun hB => HDI.out _ hB) ?_; clear hO; intro w1 hO; (try simp only [World.size_alloc1, World.size_drew, Nat.reduceAdd] at hO); (try simp only [upd, updI, List.map_cons, List.map_nil, eq_self, if_true, if_false, reduceIte, Nat.add_eq_left, Nat.left_eq_add, Nat.reduceEqDiff, List.set_cons_zero, List.set_cons_succ, hU, hG] at hO); clear hG; have hF := hO; (try simp only [Own, Item.Holds, apart_bb, apart_br, apart_rb, CellsAt, Nat.reduceAdd, Nat.zero_add, List.mem_cons, List.not_mem_nil, or_false, forall_eq_or_imp, forall_eq, ne_eq, false_imp_iff, implies_true, and_true] at hF))
      have h9 := Own.set_mem (i := 0) (u := .int .i64 x.t) [_] hO
      exact ⟨_, ⟨rfl, pre, x, _, _, rfl, HPRE.out, HB0.out, rfl⟩, h9⟩
  case done =>
    rintro D xs _ W rfl ⟨rfl, hall⟩ hO1
    have hO := hO1.perm List.perm_append_comm
    clear hO1 hO3
    simp only [List.cons_append, List.nil_append] at hO
    have HE := hid (show z = -1 by rw [← HZ.out]; exact fd_none hall)
    clear hall
    have hF := True.intro
    have hF := hO; (try simp only [Own, Item.Holds, apart_bb, apart_br, apart_rb, CellsAt, Nat.reduceAdd, Nat.zero_add, List.mem_cons, List.not_mem_nil, or_false, forall_eq_or_imp, forall_eq, ne_eq, false_imp_iff, implies_true, and_true] at hF)
    have h9 := Own.set_mem (i := 0) (u := .int .i64 (-1)) [_] hO
    simp only [List.cons_append, List.nil_append, List.set_cons_zero] at h9
    clear hO
    gi_wp2
    refine own_leaveM (v := .int .i64 (-1)) (Firm.plain w) rfl h9 (fun w' h => ?_) (fun w' h => ?_)
    · have hO := h
      have hF := True.intro
      clear h h9
      have hF := hO; (try simp only [Own, Item.Holds, apart_bb, apart_br, apart_rb, CellsAt, Nat.reduceAdd, Nat.zero_add, List.mem_cons, List.not_mem_nil, or_false, forall_eq_or_imp, forall_eq, ne_eq, false_imp_iff, implies_true, and_true] at hF)
      simp [results, Tryd.results24, go_sem, hF]
    · rw [HE.out]
      exact ⟨rfl, h.base⟩
  case stop =>
    rintro D cd pre _ W hpre ⟨rfl, pre0, x, q, vs, rfl, hall, hx, rfl⟩ hO1
    have hO := hO1.perm List.perm_append_comm
    clear hO1 hO3
    simp only [List.cons_append, List.nil_append] at hO
    have HE := hid (show z = x.t by
      obtain ⟨r, hr⟩ := hpre
      rw [← HZ.out, ← hr, List.append_assoc]
      exact fd_hit hall hx)
    clear hpre hall hx
    have h9 := (hO.perm ((List.Perm.swap _ _ _).cons _))
    clear hO
    gi_wp2
    refine own_leaveM (v := .int .i64 x.t) (Firm.plain w) rfl h9 (fun w' h => ?_) (fun w' h => ?_)
    · have hO := h
      have hF := True.intro
      clear h h9
      have hF := hO; (try simp only [Own, Item.Holds, apart_bb, apart_br, apart_rb, CellsAt, Nat.reduceAdd, Nat.zero_add, List.mem_cons, List.not_mem_nil, or_false, forall_eq_or_imp, forall_eq, ne_eq, false_imp_iff, implies_true, and_true] at hF)
      simp [results, Tryd.results24, go_sem, hF]
    · rw [HE.out]
      exact ⟨rfl, h.base⟩

set_option maxHeartbeats 4000000 in
theorem mfI_out (va vb : Value) (a b : List Nt) (n m : Nat) (w : World) (hk : a.length = n) (hm : b.length = m) (ha : SlAt w va n 6 (vcC a)) (hb : SlAt w vb m 6 (vcC b)) (hn : n ≤ 1048576) (hm9 : m ≤ 1048576) (hv : bvB a b = false) :
    Calls Tryd.prog 24 #[va, vb] w fun e w' => e = .returned (.int .i64 (-1)) ∧ Below w.heap.size w w' := by
  have hO := Own.start w
  have hF := True.intro
  cases hvo : voB a
  · have HV := hid (voI_is hk ha hn hvo)
    clear ha hb hk hm hv hvo
    go_enter Tryd.func24, Tryd.ntmps24
    go_wp2_with (go_at_call 32; apply own_at hO; (repeat (first | (with_reducible exact hO) | (with_reducible apply Own.alloc) | (with_reducible apply Own.drew) | ((with_reducible apply Own.set_at); (focus (show _ ≤ _; omega))))); have hG := hF; clear hF; clear hO; intro hO; refine own_call hO (fun hB => HV.out _ hB) ?_; clear hO; intro w1 hO; (try simp only [World.size_alloc1, World.size_drew, Nat.reduceAdd] at hO); (try simp only [upd, updI, List.map_cons, List.map_nil, eq_self, if_true, if_false, reduceIte, Nat.add_eq_left, Nat.left_eq_add, Nat.reduceEqDiff, List.set_cons_zero, List.set_cons_succ, hG] at hO); clear hG; have hF := hO; (try simp only [Own, Item.Holds, apartI, CellsAt, Nat.reduceAdd, Nat.zero_add, List.mem_cons, List.not_mem_nil, or_false, forall_eq_or_imp, forall_eq, ne_eq, false_imp_iff, implies_true, and_true] at hF))
    apply own_end hO
    (repeat (first | (with_reducible exact hO) | (with_reducible apply Own.alloc) | (with_reducible apply Own.drew) | ((with_reducible apply Own.set_at); (focus (show _ ≤ _; omega)))))
    have hG := hF; clear hF; clear hO; intro hO
    refine own_ret (v := .int .i64 (-1)) hO ?_ rfl (fun hO => ⟨rfl, hO.base⟩)
    clear hO; intro w1 hO
    (try simp only [World.size_alloc1, World.size_drew, Nat.reduceAdd] at hO); (try simp only [upd, updI, List.map_cons, List.map_nil, eq_self, if_true, if_false, reduceIte, Nat.add_eq_left, Nat.left_eq_add, Nat.reduceEqDiff, List.set_cons_zero, List.set_cons_succ, hG] at hO); clear hG
    have hF := hO; (try simp only [Own, Item.Holds, apartI, CellsAt, Nat.reduceAdd, Nat.zero_add, List.mem_cons, List.not_mem_nil, or_false, forall_eq_or_imp, forall_eq, ne_eq, false_imp_iff, implies_true, and_true] at hF)
    simp [results, Tryd.results24, go_sem, hF]
  · have hvb : voB b = false := by unfold bvB at hv; rw [hvo] at hv; simpa using hv
    have HV := hid (voI_is hk ha hn hvo)
    have HW := hid (voI_is hm hb hm9 hvb)
    clear ha hb hk hm hv hvo hvb
    go_enter Tryd.func24, Tryd.ntmps24
    go_wp2_with fail
    (go_at_call 32; apply own_at hO; (repeat (first | (with_reducible exact hO) | (with_reducible apply Own.alloc) | (with_reducible apply Own.drew) | ((with_reducible apply Own.set_at); (focus (show _ ≤ _; omega))))); have hG := hF; clear hF; clear hO; intro hO; refine own_call hO (fun hB => HV.out _ hB) ?_; clear hO; intro w1 hO; (try simp only [World.size_alloc1, World.size_drew, Nat.reduceAdd] at hO); (try simp only [upd, updI, List.map_cons, List.map_nil, eq_self, if_true, if_false, reduceIte, Nat.add_eq_left, Nat.left_eq_add, Nat.reduceEqDiff, List.set_cons_zero, List.set_cons_succ, hG] at hO); clear hG; have hF := hO; (try simp only [Own, Item.Holds, apartI, CellsAt, Nat.reduceAdd, Nat.zero_add, List.mem_cons, List.not_mem_nil, or_false, forall_eq_or_imp, forall_eq, ne_eq, false_imp_iff, implies_true, and_true] at hF))
    go_wp2_with (go_at_call 32; apply own_at hO; (repeat (first | (with_reducible exact hO) | (with_reducible apply Own.alloc) | (with_reducible apply Own.drew) | ((with_reducible apply Own.set_at); (focus (show _ ≤ _; omega))))); have hG := hF; clear hF; clear hO; intro hO; refine own_call hO (fun hB => HW.out _ hB) ?_; clear hO; intro w1 hO; (try simp only [World.size_alloc1, World.size_drew, Nat.reduceAdd] at hO); (try simp only [upd, updI, List.map_cons, List.map_nil, eq_self, if_true, if_false, reduceIte, Nat.add_eq_left, Nat.left_eq_add, Nat.reduceEqDiff, List.set_cons_zero, List.set_cons_succ, hG] at hO); clear hG; have hF := hO; (try simp only [Own, Item.Holds, apartI, CellsAt, Nat.reduceAdd, Nat.zero_add, List.mem_cons, List.not_mem_nil, or_false, forall_eq_or_imp, forall_eq, ne_eq, false_imp_iff, implies_true, and_true] at hF))
    apply own_end hO
    (repeat (first | (with_reducible exact hO) | (with_reducible apply Own.alloc) | (with_reducible apply Own.drew) | ((with_reducible apply Own.set_at); (focus (show _ ≤ _; omega)))))
    have hG := hF; clear hF; clear hO; intro hO
    refine own_ret (v := .int .i64 (-1)) hO ?_ rfl (fun hO => ⟨rfl, hO.base⟩)
    clear hO; intro w1 hO
    (try simp only [World.size_alloc1, World.size_drew, Nat.reduceAdd] at hO); (try simp only [upd, updI, List.map_cons, List.map_nil, eq_self, if_true, if_false, reduceIte, Nat.add_eq_left, Nat.left_eq_add, Nat.reduceEqDiff, List.set_cons_zero, List.set_cons_succ, hG] at hO); clear hG
    have hF := hO; (try simp only [Own, Item.Holds, apartI, CellsAt, Nat.reduceAdd, Nat.zero_add, List.mem_cons, List.not_mem_nil, or_false, forall_eq_or_imp, forall_eq, ne_eq, false_imp_iff, implies_true, and_true] at hF)
    simp [results, Tryd.results24, go_sem, hF]

theorem mfI_any (va vb : Value) (a b : List Nt) (w : World) (hT : TabH w) (ha : SlAt w va a.length 6 (vcC a)) (hb : SlAt w vb b.length 6 (vcC b)) (hn : a.length ≤ 1048576) (hm : b.length ≤ 1048576) :
    Calls Tryd.prog 24 #[va, vb] w fun e w' => e = .returned (.int .i64 (mfZ a b)) ∧ Below w.heap.size w w' := by
  cases hv : bvB a b
  · rw [mf_no hv]
    exact mfI_out va vb a b _ _ w rfl rfl ha hb hn hm hv
  · unfold bvB at hv
    rw [Bool.and_eq_true] at hv
    rw [mf_fd hv.1 hv.2]
    exact mfI_in va vb a b _ _ _ w hT rfl rfl ha hb hv.1 hv.2 rfl
theorem mfI_C {w : World} (hT : TabH w) : CMf 24 w := fun va vb a b W hW ha hb hn hm => mfI_any va vb a b W (hT.below hW) ha hb hn hm
end Go.Proofs.YtmkhpafcgobfhaaDoor
