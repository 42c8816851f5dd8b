/- Chapter 9 in the program: instruments; what is written and what sounds; the first note outside of the range. -/
import Derived.Test.YtcgcnkddgihkpaaDoorCon9
import Derived.Test.YtcgcnkddgihkpaaDoorWalks5E
import Derived.Test.YtcgcnkddgihkpaaDoorWalks2I
import Derived.Test.YtcgcnkddgihkpaaDoorWalksKr
import Derived.Test.YtcgcnkddgihkpaaDoorRegionD
namespace Go.Proofs.YtcgcnkddgihkpaaDoor
set_option linter.unusedSimpArgs false
set_option linter.unusedVariables false
set_option maxRecDepth 8000
open Go.RowKit

theorem ivI_is9 {st ha : Int} {b : Bool} (h : ivB st ha = b) (r1 : r64 st) (r2 : r64 ha) (W : World) (ht : TabH W) :
    Calls Tryd.prog 48 #[.agg #[.int .i64 st, .int .i64 ha]] W fun e w' => e = .returned (.bool b) ∧ Below W.heap.size W w' := by
  subst h; exact ivI_any st ha W ht r1 r2

set_option maxHeartbeats 2000000 in
theorem inI_any (st ha lo hi : Int) (w : World) (ht : TabH w) (r : i64s st ha lo hi) :
    Calls Tryd.prog 94 #[.agg #[.int .i64 st, .int .i64 ha, .int .i64 lo, .int .i64 hi]] w fun e w' => e = .returned (.bool (inVB st ha lo hi)) ∧ Below w.heap.size w w' := by
  have hO := Own.start w
  have hF := True.intro
  obtain ⟨b, hb⟩ : ∃ b, ivB st ha = b := ⟨_, rfl⟩
  obtain ⟨b2, hb2⟩ : ∃ b, (inB lo 0 107 && inB hi lo 107) = b := ⟨_, rfl⟩
  have HI := hid (fun W (hW : Below w.heap.size w W) => ivI_is9 hb r.1 r.2.1 W (ht.below hW))
  have HR := hid (fun W => krI_is hb2 W)
  have HE := hid (show inVB st ha lo hi = (b && b2) by unfold inVB; rw [hb, hb2])
  clear hb hb2 ht r
  cases b
  · go_enter Tryd.func94, Tryd.ntmps94
    go_wp2_with (go_at_call 48; apply own_at hO; (repeat (first | (with_reducible exact hO) | (with_reducible apply Own.alloc) | (with_reducible apply Own.drew) | ((with_reducible apply Own.set_at); (focus (show _ ≤ _; omega))))); have hG := hF; clear hF; clear hO; intro hO; refine own_call hO (fun hB => HI.out _ hB) ?_; clear hO; intro w1 hO; (try simp only [World.size_alloc1, World.size_drew, Nat.reduceAdd] at hO); (try simp only [upd, updI, List.map_cons, List.map_nil, eq_self, if_true, if_false, reduceIte, Nat.add_eq_left, Nat.left_eq_add, Nat.reduceEqDiff, List.set_cons_zero, List.set_cons_succ, hG] at hO); clear hG; have hF := hO; (try simp only [Own, Item.Holds, apartI, CellsAt, Nat.reduceAdd, Nat.zero_add, List.mem_cons, List.not_mem_nil, or_false, forall_eq_or_imp, forall_eq, ne_eq, false_imp_iff, implies_true, and_true] at hF))
    go_ret
    exact ⟨ret_bool HE.out.symm, Own.base (by (repeat (first | (with_reducible exact hO) | (with_reducible apply Own.alloc) | (with_reducible apply Own.drew) | ((with_reducible apply Own.set_at); (focus (show _ ≤ _; omega))))))⟩
  · go_enter Tryd.func94, Tryd.ntmps94
    go_wp2_with (first | (go_at_call 48; apply own_at hO; (repeat (first | (with_reducible exact hO) | (with_reducible apply Own.alloc) | (with_reducible apply Own.drew) | ((with_reducible apply Own.set_at); (focus (show _ ≤ _; omega))))); have hG := hF; clear hF; clear hO; intro hO; refine own_call hO (fun hB => HI.out _ hB) ?_; clear hO; intro w1 hO; (try simp only [World.size_alloc1, World.size_drew, Nat.reduceAdd] at hO); (try simp only [upd, updI, List.map_cons, List.map_nil, eq_self, if_true, if_false, reduceIte, Nat.add_eq_left, Nat.left_eq_add, Nat.reduceEqDiff, List.set_cons_zero, List.set_cons_succ, hG] at hO); clear hG; have hF := hO; (try simp only [Own, Item.Holds, apartI, CellsAt, Nat.reduceAdd, Nat.zero_add, List.mem_cons, List.not_mem_nil, or_false, forall_eq_or_imp, forall_eq, ne_eq, false_imp_iff, implies_true, and_true] at hF)) | (go_at_call 99; apply own_at hO; (repeat (first | (with_reducible exact hO) | (with_reducible apply Own.alloc) | (with_reducible apply Own.drew) | ((with_reducible apply Own.set_at); (focus (show _ ≤ _; omega))))); have hG := hF; clear hF; clear hO; intro hO; refine own_call hO (fun hB => HR.out _) ?_; clear hO; intro w1 hO; (try simp only [World.size_alloc1, World.size_drew, Nat.reduceAdd] at hO); (try simp only [upd, updI, List.map_cons, List.map_nil, eq_self, if_true, if_false, reduceIte, Nat.add_eq_left, Nat.left_eq_add, Nat.reduceEqDiff, List.set_cons_zero, List.set_cons_succ, hG] at hO); clear hG; have hF := hO; (try simp only [Own, Item.Holds, apartI, CellsAt, Nat.reduceAdd, Nat.zero_add, List.mem_cons, List.not_mem_nil, or_false, forall_eq_or_imp, forall_eq, ne_eq, false_imp_iff, implies_true, and_true] at hF)))
    go_ret
    exact ⟨ret_bool HE.out.symm, Own.base (by first | exact hO | (repeat (first | (with_reducible exact hO) | (with_reducible apply Own.alloc) | (with_reducible apply Own.drew) | ((with_reducible apply Own.set_at); (focus (show _ ≤ _; omega))))))⟩
theorem inI_C (w : World) (ht : TabH w) : CIns 94 w := fun st ha lo hi W hW h => inI_any st ha lo hi W (ht.below hW) h
theorem inI_is {st ha lo hi : Int} {b : Bool} (h : inVB st ha lo hi = b) (r : i64s st ha lo hi) (W : World) (ht : TabH W) :
    Calls Tryd.prog 94 #[.agg #[.int .i64 st, .int .i64 ha, .int .i64 lo, .int .i64 hi]] W fun e w' => e = .returned (.bool b) ∧ Below W.heap.size W w' := by
  subst h; exact inI_any st ha lo hi W ht r

theorem keyI_is9 {s a o z : Int} (hz : keyZ s a o = z) (W : World) (ht : TabH W) :
    Calls Tryd.prog 47 #[.agg #[.int .i64 s, .int .i64 a, .int .i64 o]] W fun e w' => e = .returned (.int .i64 z) ∧ Below W.heap.size W w' := by
  subst hz; exact keyI_any s a o W ht

/-- What a valid voice, moved for an instrument, is. -/
def mvB (st ha lo hi : Int) (v : List Nt) (sb hb : Int) : Bool := inVB st ha lo hi && shB v sb hb
def mvL (st ha lo hi : Int) (v : List Nt) (sb hb : Int) : List Nt := if inVB st ha lo hi then shL v sb hb else []
set_option maxHeartbeats 2000000 in
theorem mvI_any (va : Value) (v : List Nt) (st ha lo hi sb hb : Int) (w : World) (hs : SlAt w va v.length 6 (vcC v)) (hn : v.length ≤ 1048576) (ht : TabH w) (r : i64s st ha lo hi) (r1 : r64 sb) (r2 : r64 hb) :
    Calls Tryd.prog 73 #[.agg #[.int .i64 st, .int .i64 ha, .int .i64 lo, .int .i64 hi], va, .agg #[.int .i64 sb, .int .i64 hb]] w (RowOutB 39 6 (mvL st ha lo hi v sb hb).length (vcC (mvL st ha lo hi v sb hb)) (mvB st ha lo hi v sb hb) w) := by
  have hO := Own.start w
  have hF := True.intro
  cases hv : inVB st ha lo hi
  · have HE := hid (show mvB st ha lo hi v sb hb = false ∧ mvL st ha lo hi v sb hb = [] from ⟨by unfold mvB; rw [hv]; rfl, by unfold mvL; rw [hv]; rfl⟩)
    have HV := hid (fun W (hW : Below w.heap.size w W) => inI_is hv r W (ht.below hW))
    clear hv hs ht r r1 r2
    go_enter Tryd.func73, Tryd.ntmps73
    go_wp2_with (go_at_call 94; apply own_at hO; (repeat (first | (with_reducible exact hO) | (with_reducible apply Own.alloc) | (with_reducible apply Own.drew) | ((with_reducible apply Own.set_at); (focus (show _ ≤ _; omega))))); have hG := hF; clear hF; clear hO; intro hO; refine own_call hO (fun hB => HV.out _ hB) ?_; clear hO; intro w1 hO; (try simp only [World.size_alloc1, World.size_drew, Nat.reduceAdd] at hO); (try simp only [upd, updI, List.map_cons, List.map_nil, eq_self, if_true, if_false, reduceIte, Nat.add_eq_left, Nat.left_eq_add, Nat.reduceEqDiff, List.set_cons_zero, List.set_cons_succ, hG] at hO); clear hG; have hF := hO; (try simp only [Own, Item.Holds, apartI, CellsAt, Nat.reduceAdd, Nat.zero_add, List.mem_cons, List.not_mem_nil, or_false, forall_eq_or_imp, forall_eq, ne_eq, false_imp_iff, implies_true, and_true] at hF))
    go_ret2
    rw [HE.out.1, HE.out.2]
    exact RowOutB.mk (Own.nilRow 39 6 hO)
  · have HE := hid (show mvB st ha lo hi v sb hb = shB v sb hb ∧ mvL st ha lo hi v sb hb = shL v sb hb from ⟨by unfold mvB; rw [hv]; rfl, by unfold mvL; rw [if_pos hv]⟩)
    have HV := hid (fun W (hW : Below w.heap.size w W) => inI_is hv r W (ht.below hW))
    have HS := hid (fun W (hW : Below w.heap.size w W) => svI_any va v sb hb W (hs.below hW) hn (ht.below hW) r1 r2)
    clear hv hs ht r r1 r2
    go_enter Tryd.func73, Tryd.ntmps73
    go_wp2_with (first | (go_at_call 94; apply own_at hO; (repeat (first | (with_reducible exact hO) | (with_reducible apply Own.alloc) | (with_reducible apply Own.drew) | ((with_reducible apply Own.set_at); (focus (show _ ≤ _; omega))))); have hG := hF; clear hF; clear hO; intro hO; refine own_call hO (fun hB => HV.out _ hB) ?_; clear hO; intro w1 hO; (try simp only [World.size_alloc1, World.size_drew, Nat.reduceAdd] at hO); (try simp only [upd, updI, List.map_cons, List.map_nil, eq_self, if_true, if_false, reduceIte, Nat.add_eq_left, Nat.left_eq_add, Nat.reduceEqDiff, List.set_cons_zero, List.set_cons_succ, hG] at hO); clear hG; have hF := hO; (try simp only [Own, Item.Holds, apartI, CellsAt, Nat.reduceAdd, Nat.zero_add, List.mem_cons, List.not_mem_nil, or_false, forall_eq_or_imp, forall_eq, ne_eq, false_imp_iff, implies_true, and_true] at hF)) | (go_at_call 20; apply own_at hO; (repeat (first | (with_reducible exact hO) | (with_reducible apply Own.alloc) | (with_reducible apply Own.drew) | ((with_reducible apply Own.set_at); (focus (show _ ≤ _; omega))))); have hG := hF; clear hF; clear hO; intro hO; refine own_call_rowB hO (fun hB => HS.out _ hB) ?_; clear hO; intro v w1 hO; (try simp only [World.size_alloc1, World.size_drew, Nat.reduceAdd] at hO); (try simp only [upd, updI, List.map_cons, List.map_nil, eq_self, if_true, if_false, reduceIte, Nat.add_eq_left, Nat.left_eq_add, Nat.reduceEqDiff, List.set_cons_zero, List.set_cons_succ, hG] at hO); clear hG; have hF := hO; (try simp only [Own, Item.Holds, apartI, CellsAt, Nat.reduceAdd, Nat.zero_add, List.mem_cons, List.not_mem_nil, or_false, forall_eq_or_imp, forall_eq, ne_eq, false_imp_iff, implies_true, and_true] at hF)))
    go_ret2
    rw [HE.out.1, HE.out.2]
    exact RowOutB.mk hO

set_option maxHeartbeats 2000000 in
theorem wfI_any (va : Value) (v : List Nt) (st ha lo hi : Int) (w : World) (hs : SlAt w va v.length 6 (vcC v)) (hn : v.length ≤ 1048576) (ht : TabH w) (r : i64s st ha lo hi) :
    Calls Tryd.prog 40 #[.agg #[.int .i64 st, .int .i64 ha, .int .i64 lo, .int .i64 hi], va] w (RowOutB 39 6 (wfL st ha lo hi v).length (vcC (wfL st ha lo hi v)) (wfB st ha lo hi v) w) := by
  have hO := Own.start w
  have hF := True.intro
  have HE := hid (show mvB st ha lo hi v st ha = wfB st ha lo hi v ∧ mvL st ha lo hi v st ha = wfL st ha lo hi v from ⟨rfl, rfl⟩)
  have HS := hid (fun W (hW : Below w.heap.size w W) => mvI_any va v st ha lo hi st ha W (hs.below hW) hn (ht.below hW) r r.1 r.2.1)
  clear hs ht r
  go_enter Tryd.func40, Tryd.ntmps40
  go_wp2_with (go_at_call 73; apply own_at hO; (repeat (first | (with_reducible exact hO) | (with_reducible apply Own.alloc) | (with_reducible apply Own.drew) | ((with_reducible apply Own.set_at); (focus (show _ ≤ _; omega))))); have hG := hF; clear hF; clear hO; intro hO; refine own_call_rowB hO (fun hB => HS.out _ hB) ?_; clear hO; intro v w1 hO; (try simp only [World.size_alloc1, World.size_drew, Nat.reduceAdd] at hO); (try simp only [upd, updI, List.map_cons, List.map_nil, eq_self, if_true, if_false, reduceIte, Nat.add_eq_left, Nat.left_eq_add, Nat.reduceEqDiff, List.set_cons_zero, List.set_cons_succ, hG] at hO); clear hG; have hF := hO; (try simp only [Own, Item.Holds, apartI, CellsAt, Nat.reduceAdd, Nat.zero_add, List.mem_cons, List.not_mem_nil, or_false, forall_eq_or_imp, forall_eq, ne_eq, false_imp_iff, implies_true, and_true] at hF))
  go_ret2
  rw [← HE.out.1, ← HE.out.2]
  exact RowOutB.mk hO
theorem wfI_C (w : World) (ht : TabH w) : CIv 40 wfL wfB w := fun va v st ha lo hi W hW hs hn r => wfI_any va v st ha lo hi W hs hn (ht.below hW) r

set_option maxHeartbeats 2000000 in
theorem sfI_any (va : Value) (v : List Nt) (st ha lo hi : Int) (w : World) (hs : SlAt w va v.length 6 (vcC v)) (hn : v.length ≤ 1048576) (ht : TabH w) (r : i64s st ha lo hi) :
    Calls Tryd.prog 42 #[.agg #[.int .i64 st, .int .i64 ha, .int .i64 lo, .int .i64 hi], va] w (RowOutB 39 6 (sfL st ha lo hi v).length (vcC (sfL st ha lo hi v)) (sfB st ha lo hi v) w) := by
  have hO := Own.start w
  have hF := True.intro
  cases hv : ivB st ha
  · have HE := hid (show mvB st ha lo hi v 0 0 = sfB st ha lo hi v ∧ mvL st ha lo hi v 0 0 = sfL st ha lo hi v from by unfold mvB sfB mvL sfL inVB; rw [hv]; exact ⟨rfl, rfl⟩)
    have HB := hid (fun W (hW : Below w.heap.size w W) => backI_no st ha W (ht.below hW) r.1 r.2.1 hv)
    have HS := hid (fun W (hW : Below w.heap.size w W) => mvI_any va v st ha lo hi 0 0 W (hs.below hW) hn (ht.below hW) r (by unfold r64; omega) (by unfold r64; omega))
    clear hs ht r hv
    go_enter Tryd.func42, Tryd.ntmps42
    go_wp2_with fail
    apply own_code hO
    (repeat (first | (with_reducible exact hO) | (with_reducible apply Own.alloc) | (with_reducible apply Own.drew) | ((with_reducible apply Own.set_at); (focus (show _ ≤ _; omega)))))
    have hG := hF; clear hF; clear hO; intro hO
    (try simp only [World.size_alloc1, World.size_drew, Nat.reduceAdd] at hO); (try simp only [upd, updI, List.map_cons, List.map_nil, eq_self, if_true, if_false, reduceIte, Nat.add_eq_left, Nat.left_eq_add, Nat.reduceEqDiff, List.set_cons_zero, List.set_cons_succ, hG] at hO); clear hG
    refine region_own (X := fun _ => True) [] (by kernel_rfl) (hO) (trivial) (by first | exact XStab.true | exact XStab.rd | exact XStab.rdIf) ?_
    clear hO
    refine Sim.sO (i := 0) (d := some 6) (v := ?_) (hy := ?_) (h := ?_)
    rotate_left
    · first | refine Or.inl ⟨by rfl, fun w hO => ?_⟩ | (refine Or.inr ⟨by rfl, ?_⟩; with_reducible rfl)
      first | done | (have hF := hO; (try simp only [Own, Item.Holds, apartI, CellsAt, Nat.reduceAdd, Nat.zero_add, List.mem_cons, List.not_mem_nil, or_false, forall_eq_or_imp, forall_eq, ne_eq, false_imp_iff, implies_true, and_true] at hF); refine Out.same ?_; go_simp; all_goals with_reducible rfl)
    refine Sim.sP (i := 1) (d := some 7) (h := ?_)
    refine Sim.sP (i := 2) (d := some 8) (h := ?_)
    refine Sim.sO (i := 3) (d := some 9) (v := ?_) (hy := ?_) (h := ?_)
    rotate_left
    · first | refine Or.inl ⟨by rfl, fun w hO => ?_⟩ | (refine Or.inr ⟨by rfl, ?_⟩; with_reducible rfl)
      first | done | (have hF := hO; (try simp only [Own, Item.Holds, apartI, CellsAt, Nat.reduceAdd, Nat.zero_add, List.mem_cons, List.not_mem_nil, or_false, forall_eq_or_imp, forall_eq, ne_eq, false_imp_iff, implies_true, and_true] at hF); refine Out.same ?_; go_simp; all_goals with_reducible rfl)
    refine Sim.sO (i := 4) (d := some 10) (v := ?_) (hy := ?_) (h := ?_)
    rotate_left
    · first | refine Or.inl ⟨by rfl, fun w hO => ?_⟩ | (refine Or.inr ⟨by rfl, ?_⟩; with_reducible rfl)
      first | done | (refine Out.call (f := 37) (args := ?_) ?_ ?_; rotate_left; (focus (go_simp; all_goals with_reducible rfl)); exact HB.out _ hO.base)
    refine Sim.one' (i := 5) (oi := { dst := some 11, op := Op.call { callee := Callee.value (Operand.func 73), args := #[Operand.tmp 6, Operand.tmp 7, Operand.tmp 10], argTypes := #[61, 23, 31] }, type := 25, pos := "l9_instruments.go:22", after := #[{ on := 0, ground := Ground.data }, { on := 1, ground := Ground.data }, { on := 4, ground := Ground.data }, { on := 4, ground := Ground.chain }], guard := none }) (by kernel_rfl) rfl (by rfl) (fun w0 hO hX K hK => ?_)
    have hF := hO; (try simp only [Own, Item.Holds, apartI, CellsAt, Nat.reduceAdd, Nat.zero_add, List.mem_cons, List.not_mem_nil, or_false, forall_eq_or_imp, forall_eq, ne_eq, false_imp_iff, implies_true, and_true] at hF)
    go_simp
    refine (HS.out _ hO.base).mono ?_
    rintro e wa ⟨ra, rfl, hra, hBa⟩
    apply hK _ _ _ (fun _ => True)
    · exact hO.addRow hBa hra
    · exact trivial
    · exact XStab.true
    · first | exact fun _ _ h => h.2 | exact fun h => absurd h (by decide)
    clear hra hBa
    clear hK K hF hO
    try simp only [Act.put, List.setIfInBounds_toArray, List.set_cons_zero, List.set_cons_succ]
    refine Sim.sP (i := 6) (d := some 12) (h := ?_)
    refine Sim.sP (i := 7) (d := some 13) (h := ?_)
    refine Sim.sP (i := 8) (d := some 4) (h := ?_)
    refine Sim.sP (i := 9) (d := some 5) (h := ?_)
    refine Sim.done (by kernel_rfl) (fun w1 hO hX => ?_) _
    (try simp only [World.size_alloc1, World.size_drew, Nat.reduceAdd] at hO); (try simp only [upd, updI, List.map_cons, List.map_nil, eq_self, if_true, if_false, reduceIte, Nat.add_eq_left, Nat.left_eq_add, Nat.reduceEqDiff, List.set_cons_zero, List.set_cons_succ] at hO)
    have hF := hO; (try simp only [Own, Item.Holds, apartI, CellsAt, Nat.reduceAdd, Nat.zero_add, List.mem_cons, List.not_mem_nil, or_false, forall_eq_or_imp, forall_eq, ne_eq, false_imp_iff, implies_true, and_true] at hF)
    go_wp2
    go_ret2
    rw [← HE.out.1, ← HE.out.2]
    exact RowOutB.mk hO
  · obtain ⟨⟨a1, a2⟩, ⟨b1, b2⟩, _⟩ := ivB_iff.1 hv
    have HE := hid (show mvB st ha lo hi v (-st) (-ha) = sfB st ha lo hi v ∧ mvL st ha lo hi v (-st) (-ha) = sfL st ha lo hi v from ⟨rfl, rfl⟩)
    have HB := hid (fun W (hW : Below w.heap.size w W) => backI_yes st ha W (ht.below hW) hv)
    have HS := hid (fun W (hW : Below w.heap.size w W) => mvI_any va v st ha lo hi (-st) (-ha) W (hs.below hW) hn (ht.below hW) r (by unfold r64; omega) (by unfold r64; omega))
    clear hs ht r hv a1 a2 b1 b2
    go_enter Tryd.func42, Tryd.ntmps42
    go_wp2_with fail
    apply own_code hO
    (repeat (first | (with_reducible exact hO) | (with_reducible apply Own.alloc) | (with_reducible apply Own.drew) | ((with_reducible apply Own.set_at); (focus (show _ ≤ _; omega)))))
    have hG := hF; clear hF; clear hO; intro hO
    (try simp only [World.size_alloc1, World.size_drew, Nat.reduceAdd] at hO); (try simp only [upd, updI, List.map_cons, List.map_nil, eq_self, if_true, if_false, reduceIte, Nat.add_eq_left, Nat.left_eq_add, Nat.reduceEqDiff, List.set_cons_zero, List.set_cons_succ, hG] at hO); clear hG
    refine region_own (X := fun _ => True) [] (by kernel_rfl) (hO) (trivial) (by first | exact XStab.true | exact XStab.rd | exact XStab.rdIf) ?_
    clear hO
    refine Sim.sO (i := 0) (d := some 6) (v := ?_) (hy := ?_) (h := ?_)
    rotate_left
    · first | refine Or.inl ⟨by rfl, fun w hO => ?_⟩ | (refine Or.inr ⟨by rfl, ?_⟩; with_reducible rfl)
      first | done | (have hF := hO; (try simp only [Own, Item.Holds, apartI, CellsAt, Nat.reduceAdd, Nat.zero_add, List.mem_cons, List.not_mem_nil, or_false, forall_eq_or_imp, forall_eq, ne_eq, false_imp_iff, implies_true, and_true] at hF); refine Out.same ?_; go_simp; all_goals with_reducible rfl)
    refine Sim.sP (i := 1) (d := some 7) (h := ?_)
    refine Sim.sP (i := 2) (d := some 8) (h := ?_)
    refine Sim.sO (i := 3) (d := some 9) (v := ?_) (hy := ?_) (h := ?_)
    rotate_left
    · first | refine Or.inl ⟨by rfl, fun w hO => ?_⟩ | (refine Or.inr ⟨by rfl, ?_⟩; with_reducible rfl)
      first | done | (have hF := hO; (try simp only [Own, Item.Holds, apartI, CellsAt, Nat.reduceAdd, Nat.zero_add, List.mem_cons, List.not_mem_nil, or_false, forall_eq_or_imp, forall_eq, ne_eq, false_imp_iff, implies_true, and_true] at hF); refine Out.same ?_; go_simp; all_goals with_reducible rfl)
    refine Sim.sO (i := 4) (d := some 10) (v := ?_) (hy := ?_) (h := ?_)
    rotate_left
    · first | refine Or.inl ⟨by rfl, fun w hO => ?_⟩ | (refine Or.inr ⟨by rfl, ?_⟩; with_reducible rfl)
      first | done | (refine Out.call (f := 37) (args := ?_) ?_ ?_; rotate_left; (focus (go_simp; all_goals with_reducible rfl)); exact HB.out _ hO.base)
    refine Sim.one' (i := 5) (oi := { dst := some 11, op := Op.call { callee := Callee.value (Operand.func 73), args := #[Operand.tmp 6, Operand.tmp 7, Operand.tmp 10], argTypes := #[61, 23, 31] }, type := 25, pos := "l9_instruments.go:22", after := #[{ on := 0, ground := Ground.data }, { on := 1, ground := Ground.data }, { on := 4, ground := Ground.data }, { on := 4, ground := Ground.chain }], guard := none }) (by kernel_rfl) rfl (by rfl) (fun w0 hO hX K hK => ?_)
    have hF := hO; (try simp only [Own, Item.Holds, apartI, CellsAt, Nat.reduceAdd, Nat.zero_add, List.mem_cons, List.not_mem_nil, or_false, forall_eq_or_imp, forall_eq, ne_eq, false_imp_iff, implies_true, and_true] at hF)
    go_simp
    refine (HS.out _ hO.base).mono ?_
    rintro e wa ⟨ra, rfl, hra, hBa⟩
    apply hK _ _ _ (fun _ => True)
    · exact hO.addRow hBa hra
    · exact trivial
    · exact XStab.true
    · first | exact fun _ _ h => h.2 | exact fun h => absurd h (by decide)
    clear hra hBa
    clear hK K hF hO
    try simp only [Act.put, List.setIfInBounds_toArray, List.set_cons_zero, List.set_cons_succ]
    refine Sim.sP (i := 6) (d := some 12) (h := ?_)
    refine Sim.sP (i := 7) (d := some 13) (h := ?_)
    refine Sim.sP (i := 8) (d := some 4) (h := ?_)
    refine Sim.sP (i := 9) (d := some 5) (h := ?_)
    refine Sim.done (by kernel_rfl) (fun w1 hO hX => ?_) _
    (try simp only [World.size_alloc1, World.size_drew, Nat.reduceAdd] at hO); (try simp only [upd, updI, List.map_cons, List.map_nil, eq_self, if_true, if_false, reduceIte, Nat.add_eq_left, Nat.left_eq_add, Nat.reduceEqDiff, List.set_cons_zero, List.set_cons_succ] at hO)
    have hF := hO; (try simp only [Own, Item.Holds, apartI, CellsAt, Nat.reduceAdd, Nat.zero_add, List.mem_cons, List.not_mem_nil, or_false, forall_eq_or_imp, forall_eq, ne_eq, false_imp_iff, implies_true, and_true] at hF)
    go_wp2
    go_ret2
    rw [← HE.out.1, ← HE.out.2]
    exact RowOutB.mk hO
theorem sfI_C (w : World) (ht : TabH w) : CIv 42 sfL sfB w := fun va v st ha lo hi W hW hs hn r => sfI_any va v st ha lo hi W hs hn (ht.below hW) r