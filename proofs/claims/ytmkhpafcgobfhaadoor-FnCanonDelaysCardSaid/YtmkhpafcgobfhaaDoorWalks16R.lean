/- Chapter 16 in the program: what remains of a voice at a tick. -/
import Derived.Test.YtmkhpafcgobfhaaDoorPure16P
import Derived.Test.YtmkhpafcgobfhaaDoorSlTake
import Derived.Test.YtmkhpafcgobfhaaDoorRegionD
namespace Go.Proofs.YtmkhpafcgobfhaaDoor
set_option linter.unusedSimpArgs false
set_option linter.unusedVariables false
set_option maxRecDepth 8000
open Go.RowKit

set_option maxHeartbeats 1000000 in
theorem ovI_any (A : Option Addr) (k c : Nat) (s : Int) (b : Bool) (hb : (k == 0) = b) (w : World) :
    Calls Tryd.prog 81 #[.agg #[.slice A k c, .int .i64 s]] w fun e w' => e = .returned (.bool b) ∧ Below w.heap.size w w' := by
  have hO := Own.start w
  have hF := True.intro
  subst hb
  by_cases h : k = 0
  · subst h
    go_enter Tryd.func81, Tryd.ntmps81
    go_wp2
    go_ret
    exact ⟨rfl, Own.base (by (repeat (first | (with_reducible exact hO) | (with_reducible apply Own.alloc) | (with_reducible apply Own.drew) | ((with_reducible apply Own.set_at); (focus (show _ ≤ _; omega))))))⟩
  · have h1 : (k == 0) = false := by simp [h]
    have h2 : ((k : Int) == 0) = false := by simp; omega
    have h3 : ¬ (k : Int) = 0 := by omega
    rw [h1]
    clear h h1
    go_enter Tryd.func81, Tryd.ntmps81
    go_wp2
    go_ret
    exact ⟨rfl, Own.base (by (repeat (first | (with_reducible exact hO) | (with_reducible apply Own.alloc) | (with_reducible apply Own.drew) | ((with_reducible apply Own.set_at); (focus (show _ ≤ _; omega))))))⟩

/-- The note that begins what remains. -/
def hdN (l : List Nt) : Nt := (l[0]?).getD rsE
theorem hdN_at {v : List Nt} {i : Nat} {x : Nt} (h : v[i]? = some x) : hdN (v.drop i) = x := by
  unfold hdN
  rw [List.getElem?_drop, Nat.add_zero, h]
  rfl
theorem hdN_end {v : List Nt} {i : Nat} (h : v.length ≤ i) : hdN (v.drop i) = rsE := by
  unfold hdN
  rw [List.getElem?_drop, Nat.add_zero, List.getElem?_eq_none h]
  rfl

set_option maxHeartbeats 4000000 in
theorem ntI_any (A : Option Addr) (k c : Nat) (s : Int) (l : List Nt) (x : Nt) (w : World) (hs : SlAt w (.slice A k c) k 6 (vcC l)) (hk : l.length = k) (hx : hdN l = x) :
    Calls Tryd.prog 82 #[.agg #[.slice A k c, .int .i64 s]] w fun e w' => e = .returned (.agg #[.bool x.r, .int .i64 x.s, .int .i64 x.a, .int .i64 x.o, .int .i64 x.t, .bool x.y]) ∧ Below w.heap.size w w' := by
  have hO := Own.start w
  have hF := True.intro
  obtain ⟨b, hb⟩ : ∃ b, (k == 0) = b := ⟨_, rfl⟩
  have HV := hid (fun W => ovI_any A k c s b hb W)
  cases b
  · have h0 : 0 < k := by simp at hb; omega
    have h2 : (0 : Int) < (k : Int) := by omega
    obtain ⟨y, hy⟩ : ∃ y, l[0]? = some y := ⟨_, List.getElem?_eq_getElem (by omega)⟩
    have hxy : y = x := by rw [← hx]; unfold hdN; rw [hy]; rfl
    subst hxy
    obtain ⟨A', c', e, _, hA⟩ := hs.open
    cases e
    obtain ⟨q, o, rfl, hc1, hc2, hq⟩ := hA h0
    have HS := hid hs
    have HY := hid hy
    clear hs hk hx hy hb hA
    go_enter Tryd.func82, Tryd.ntmps82
    go_wp2_with fail
    (go_at_call 81; apply own_at hO; (repeat (first | (with_reducible exact hO) | (with_reducible apply Own.alloc) | (with_reducible apply Own.drew) | ((with_reducible apply Own.set_at); (focus (show _ ≤ _; omega))))); have hG := hF; clear hF; clear hO; intro hO; refine own_call hO (fun hB => HV.out _) ?_; clear hO; intro w1 hO; (try simp only [World.size_alloc1, World.size_drew, Nat.reduceAdd] at hO); (try simp only [upd, updI, List.map_cons, List.map_nil, eq_self, if_true, if_false, reduceIte, Nat.add_eq_left, Nat.left_eq_add, Nat.reduceEqDiff, List.set_cons_zero, List.set_cons_succ, hG] at hO); clear hG; have hF := hO; (try simp only [Own, Item.Holds, apartI, CellsAt, Nat.reduceAdd, Nat.zero_add, List.mem_cons, List.not_mem_nil, or_false, forall_eq_or_imp, forall_eq, ne_eq, false_imp_iff, implies_true, and_true] at hF))
    obtain ⟨d0, d1, d2, d3, d4, d5⟩ := noteAt (HS.out.below hO.base) HY.out
    simp only [Nat.zero_mul, Nat.add_zero] at d0 d1 d2 d3 d4 d5
    go_wp2
    apply own_end hO
    (repeat (first | (with_reducible exact hO) | (with_reducible apply Own.alloc) | (with_reducible apply Own.drew) | ((with_reducible apply Own.set_at); (focus (show _ ≤ _; omega)))))
    have hG := hF; clear hF; clear hO; intro hO
    refine own_ret (v := .agg #[.bool y.r, .int .i64 y.s, .int .i64 y.a, .int .i64 y.o, .int .i64 y.t, .bool y.y]) hO ?_ rfl (fun hO => ⟨rfl, hO.base⟩)
    clear hO; intro w1 hO
    (try simp only [World.size_alloc1, World.size_drew, Nat.reduceAdd] at hO); (try simp only [upd, updI, List.map_cons, List.map_nil, eq_self, if_true, if_false, reduceIte, Nat.add_eq_left, Nat.left_eq_add, Nat.reduceEqDiff, List.set_cons_zero, List.set_cons_succ, hG] at hO); clear hG
    have hF := hO; (try simp only [Own, Item.Holds, apartI, CellsAt, Nat.reduceAdd, Nat.zero_add, List.mem_cons, List.not_mem_nil, or_false, forall_eq_or_imp, forall_eq, ne_eq, false_imp_iff, implies_true, and_true] at hF)
    simp [results, Tryd.results82, go_sem, hF]
  · obtain rfl : k = 0 := by simpa using hb
    obtain rfl : l = [] := List.eq_nil_of_length_eq_zero hk
    obtain rfl : rsE = x := hx
    clear hs hk hb
    go_enter Tryd.func82, Tryd.ntmps82
    go_wp2_with (go_at_call 81; apply own_at hO; (repeat (first | (with_reducible exact hO) | (with_reducible apply Own.alloc) | (with_reducible apply Own.drew) | ((with_reducible apply Own.set_at); (focus (show _ ≤ _; omega))))); have hG := hF; clear hF; clear hO; intro hO; refine own_call hO (fun hB => HV.out _) ?_; clear hO; intro w1 hO; (try simp only [World.size_alloc1, World.size_drew, Nat.reduceAdd] at hO); (try simp only [upd, updI, List.map_cons, List.map_nil, eq_self, if_true, if_false, reduceIte, Nat.add_eq_left, Nat.left_eq_add, Nat.reduceEqDiff, List.set_cons_zero, List.set_cons_succ, hG] at hO); clear hG; have hF := hO; (try simp only [Own, Item.Holds, apartI, CellsAt, Nat.reduceAdd, Nat.zero_add, List.mem_cons, List.not_mem_nil, or_false, forall_eq_or_imp, forall_eq, ne_eq, false_imp_iff, implies_true, and_true] at hF))
    apply own_end hO
    (repeat (first | (with_reducible exact hO) | (with_reducible apply Own.alloc) | (with_reducible apply Own.drew) | ((with_reducible apply Own.set_at); (focus (show _ ≤ _; omega)))))
    have hG := hF; clear hF; clear hO; intro hO
    refine own_ret (v := .agg #[.bool true, .int .i64 0, .int .i64 0, .int .i64 0, .int .i64 0, .bool false]) hO ?_ rfl (fun hO => ⟨rfl, hO.base⟩)
    clear hO; intro w1 hO
    (try simp only [World.size_alloc1, World.size_drew, Nat.reduceAdd] at hO); (try simp only [upd, updI, List.map_cons, List.map_nil, eq_self, if_true, if_false, reduceIte, Nat.add_eq_left, Nat.left_eq_add, Nat.reduceEqDiff, List.set_cons_zero, List.set_cons_succ, hG] at hO); clear hG
    have hF := hO; (try simp only [Own, Item.Holds, apartI, CellsAt, Nat.reduceAdd, Nat.zero_add, List.mem_cons, List.not_mem_nil, or_false, forall_eq_or_imp, forall_eq, ne_eq, false_imp_iff, implies_true, and_true] at hF)
    simp [results, Tryd.results82, go_sem, hF]

/-- The end of that note; never, if nothing remains. -/
def enZ (l : List Nt) (s : Int) : Int := match l[0]? with
  | some x => s + x.t
  | none => 9223372036854775807
theorem enZ_is (v : List Nt) (i : Nat) : enZ (v.drop i) (sumT (v.take i)) = enT v i := by
  unfold enZ enT
  rw [List.getElem?_drop, Nat.add_zero]
  cases v[i]? <;> rfl

set_option maxRecDepth 20000 in
set_option maxHeartbeats 4000000 in
theorem enI_any (A : Option Addr) (k c : Nat) (s z : Int) (l : List Nt) (w : World) (hs : SlAt w (.slice A k c) k 6 (vcC l)) (hk : l.length = k) (hz : enZ l s = z) (hb : -9223372036854775808 ≤ z ∧ z ≤ 9223372036854775807) :
    Calls Tryd.prog 83 #[.agg #[.slice A k c, .int .i64 s]] w fun e w' => e = .returned (.int .i64 z) ∧ Below w.heap.size w w' := by
  have hO := Own.start w
  have hF := True.intro
  obtain ⟨b, hbk⟩ : ∃ b, (k == 0) = b := ⟨_, rfl⟩
  have HV := hid (fun W => ovI_any A k c s b hbk W)
  cases b
  · have h0 : 0 < k := by simp at hbk; omega
    have h2 : (0 : Int) < (k : Int) := by omega
    obtain ⟨y, hy⟩ : ∃ y, l[0]? = some y := ⟨_, List.getElem?_eq_getElem (by omega)⟩
    obtain ⟨t, ht⟩ : ∃ t, y.t = t := ⟨_, rfl⟩
    have hzt : s + t = z := by rw [← hz, ← ht]; unfold enZ; rw [hy]
    have wz : IntKind.i64.wrap (s + t) = z := by rw [hzt]; exact IntWalk.i64_in _ (by omega)
    obtain ⟨A', c', e, _, hA⟩ := hs.open
    cases e
    obtain ⟨q, o, rfl, hc1, hc2, hq⟩ := hA h0
    have HS := hid hs
    have HY := hid hy
    have HT := hid ht
    clear hs hk hz hy hbk hA hzt hb ht
    go_enter Tryd.func83, Tryd.ntmps83
    go_wp2_with (go_at_call 81; apply own_at hO; (repeat (first | (with_reducible exact hO) | (with_reducible apply Own.alloc) | (with_reducible apply Own.drew) | ((with_reducible apply Own.set_at); (focus (show _ ≤ _; omega))))); have hG := hF; clear hF; clear hO; intro hO; refine own_call hO (fun hB => HV.out _) ?_; clear hO; intro w1 hO; (try simp only [World.size_alloc1, World.size_drew, Nat.reduceAdd] at hO); (try simp only [upd, updI, List.map_cons, List.map_nil, eq_self, if_true, if_false, reduceIte, Nat.add_eq_left, Nat.left_eq_add, Nat.reduceEqDiff, List.set_cons_zero, List.set_cons_succ, hG] at hO); clear hG; have hF := hO; (try simp only [Own, Item.Holds, apartI, CellsAt, Nat.reduceAdd, Nat.zero_add, List.mem_cons, List.not_mem_nil, or_false, forall_eq_or_imp, forall_eq, ne_eq, false_imp_iff, implies_true, and_true] at hF))
    apply own_code hO
    (repeat (first | (with_reducible exact hO) | (with_reducible apply Own.alloc) | (with_reducible apply Own.drew) | ((with_reducible apply Own.set_at); (focus (show _ ≤ _; omega)))))
    have hG := hF; clear hF; clear hO; intro hO
    (try simp only [World.size_alloc1, World.size_drew, Nat.reduceAdd] at hO); (try simp only [upd, updI, List.map_cons, List.map_nil, eq_self, if_true, if_false, reduceIte, Nat.add_eq_left, Nat.left_eq_add, Nat.reduceEqDiff, List.set_cons_zero, List.set_cons_succ, hG] at hO); clear hG
    refine region_own (X := fun _ => True) [] (by kernel_rfl) (hO) (trivial) (by first | exact XStab.true | exact XStab.rd | exact XStab.rdIf) ?_
    clear hO
    refine Sim.sP (i := 0) (d := some 5) (h := ?_)
    refine Sim.sO (i := 1) (d := some 6) (v := ?_) (hy := ?_) (h := ?_)
    rotate_left
    · first | refine Or.inl ⟨by rfl, fun w hO => ?_⟩ | (refine Or.inr ⟨by rfl, ?_⟩; with_reducible rfl)
      first | done | (have hF := hO; (try simp only [Own, Item.Holds, apartI, CellsAt, Nat.reduceAdd, Nat.zero_add, List.mem_cons, List.not_mem_nil, or_false, forall_eq_or_imp, forall_eq, ne_eq, false_imp_iff, implies_true, and_true] at hF); ((have d4 := (noteAt (HS.out.below hO.base) HY.out).2.2.2.2.1; simp only [Nat.zero_mul, Nat.add_zero, HT.out] at d4)); refine Out.same ?_; go_simp; all_goals with_reducible rfl)
    refine Sim.sP (i := 2) (d := some 7) (h := ?_)
    refine Sim.sO (i := 3) (d := some 8) (v := ?_) (hy := ?_) (h := ?_)
    rotate_left
    · first | refine Or.inl ⟨by rfl, fun w hO => ?_⟩ | (refine Or.inr ⟨by rfl, ?_⟩; with_reducible rfl)
      first | done | (have hF := hO; (try simp only [Own, Item.Holds, apartI, CellsAt, Nat.reduceAdd, Nat.zero_add, List.mem_cons, List.not_mem_nil, or_false, forall_eq_or_imp, forall_eq, ne_eq, false_imp_iff, implies_true, and_true] at hF); ((have d4 := (noteAt (HS.out.below hO.base) HY.out).2.2.2.2.1; simp only [Nat.zero_mul, Nat.add_zero, HT.out] at d4)); refine Out.same ?_; go_simp; all_goals with_reducible rfl)
    refine Sim.sP (i := 4) (d := some 9) (h := ?_)
    refine Sim.sP (i := 5) (d := some 10) (h := ?_)
    refine Sim.sO (i := 6) (d := some 11) (v := ?_) (hy := ?_) (h := ?_)
    rotate_left
    · first | refine Or.inl ⟨by rfl, fun w hO => ?_⟩ | (refine Or.inr ⟨by rfl, ?_⟩; with_reducible rfl)
      first | done | (have hF := hO; (try simp only [Own, Item.Holds, apartI, CellsAt, Nat.reduceAdd, Nat.zero_add, List.mem_cons, List.not_mem_nil, or_false, forall_eq_or_imp, forall_eq, ne_eq, false_imp_iff, implies_true, and_true] at hF); ((have d4 := (noteAt (HS.out.below hO.base) HY.out).2.2.2.2.1; simp only [Nat.zero_mul, Nat.add_zero, HT.out] at d4)); refine Out.same ?_; go_simp; all_goals with_reducible rfl)
    refine Sim.sP (i := 7) (d := some 12) (h := ?_)
    refine Sim.sP (i := 8) (d := some 2) (h := ?_)
    refine Sim.done (by kernel_rfl) (fun w1 hO hX => ?_) _
    (try simp only [World.size_alloc1, World.size_drew, Nat.reduceAdd] at hO); (try simp only [upd, updI, List.map_cons, List.map_nil, eq_self, if_true, if_false, reduceIte, Nat.add_eq_left, Nat.left_eq_add, Nat.reduceEqDiff, List.set_cons_zero, List.set_cons_succ] at hO)
    have hF := hO; (try simp only [Own, Item.Holds, apartI, CellsAt, Nat.reduceAdd, Nat.zero_add, List.mem_cons, List.not_mem_nil, or_false, forall_eq_or_imp, forall_eq, ne_eq, false_imp_iff, implies_true, and_true] at hF)
    go_wp2
    go_ret
    exact ⟨ret_int (by omega), Own.base (by first | exact hO | (repeat (first | (with_reducible exact hO) | (with_reducible apply Own.alloc) | (with_reducible apply Own.drew) | ((with_reducible apply Own.set_at); (focus (show _ ≤ _; omega))))))⟩
  · obtain rfl : k = 0 := by simpa using hbk
    obtain rfl : l = [] := List.eq_nil_of_length_eq_zero hk
    obtain rfl : 9223372036854775807 = z := hz
    clear hs hk hbk hb
    go_enter Tryd.func83, Tryd.ntmps83
    go_wp2_with (go_at_call 81; apply own_at hO; (repeat (first | (with_reducible exact hO) | (with_reducible apply Own.alloc) | (with_reducible apply Own.drew) | ((with_reducible apply Own.set_at); (focus (show _ ≤ _; omega))))); have hG := hF; clear hF; clear hO; intro hO; refine own_call hO (fun hB => HV.out _) ?_; clear hO; intro w1 hO; (try simp only [World.size_alloc1, World.size_drew, Nat.reduceAdd] at hO); (try simp only [upd, updI, List.map_cons, List.map_nil, eq_self, if_true, if_false, reduceIte, Nat.add_eq_left, Nat.left_eq_add, Nat.reduceEqDiff, List.set_cons_zero, List.set_cons_succ, hG] at hO); clear hG; have hF := hO; (try simp only [Own, Item.Holds, apartI, CellsAt, Nat.reduceAdd, Nat.zero_add, List.mem_cons, List.not_mem_nil, or_false, forall_eq_or_imp, forall_eq, ne_eq, false_imp_iff, implies_true, and_true] at hF))
    go_ret
    exact ⟨rfl, Own.base (by first | exact hO | (repeat (first | (with_reducible exact hO) | (with_reducible apply Own.alloc) | (with_reducible apply Own.drew) | ((with_reducible apply Own.set_at); (focus (show _ ≤ _; omega))))))⟩

set_option maxHeartbeats 4000000 in
theorem frI_no (A : Option Addr) (k c : Nat) (s z t : Int) (l : List Nt) (w : World) (hs : SlAt w (.slice A k c) k 6 (vcC l)) (hk : l.length = k) (hz : enZ l s = z) (hb : -9223372036854775808 ≤ z ∧ z ≤ 9223372036854775807) (hne : ¬ z = t) :
    Calls Tryd.prog 84 #[.agg #[.slice A k c, .int .i64 s], .int .i64 t] w fun e w' => e = .returned (.agg #[.slice A k c, .int .i64 s]) ∧ Below w.heap.size w w' := by
  have hO := Own.start w
  have hF := True.intro
  have HE := hid (fun W (hW : Below w.heap.size w W) => enI_any A k c s z l W (hs.below hW) hk hz hb)
  have h2 : (z == t) = false := by simpa using hne
  have h3 : (z != t) = true := by simpa using hne
  clear hs hk hz hb
  go_enter Tryd.func84, Tryd.ntmps84
  go_wp2_with (go_at_call 83; apply own_at hO; (repeat (first | (with_reducible exact hO) | (with_reducible apply Own.alloc) | (with_reducible apply Own.drew) | ((with_reducible apply Own.set_at); (focus (show _ ≤ _; omega))))); have hG := hF; clear hF; clear hO; intro hO; refine own_call hO (fun hB => HE.out _ hB) ?_; clear hO; intro w1 hO; (try simp only [World.size_alloc1, World.size_drew, Nat.reduceAdd] at hO); (try simp only [upd, updI, List.map_cons, List.map_nil, eq_self, if_true, if_false, reduceIte, Nat.add_eq_left, Nat.left_eq_add, Nat.reduceEqDiff, List.set_cons_zero, List.set_cons_succ, hG] at hO); clear hG; have hF := hO; (try simp only [Own, Item.Holds, apartI, CellsAt, Nat.reduceAdd, Nat.zero_add, List.mem_cons, List.not_mem_nil, or_false, forall_eq_or_imp, forall_eq, ne_eq, false_imp_iff, implies_true, and_true] at hF))
  apply own_end hO
  (repeat (first | (with_reducible exact hO) | (with_reducible apply Own.alloc) | (with_reducible apply Own.drew) | ((with_reducible apply Own.set_at); (focus (show _ ≤ _; omega)))))
  have hG := hF; clear hF; clear hO; intro hO
  refine own_ret (v := .agg #[.slice A k c, .int .i64 s]) hO ?_ rfl (fun hO => ⟨rfl, hO.base⟩)
  clear hO; intro w1 hO
  (try simp only [World.size_alloc1, World.size_drew, Nat.reduceAdd] at hO); (try simp only [upd, updI, List.map_cons, List.map_nil, eq_self, if_true, if_false, reduceIte, Nat.add_eq_left, Nat.left_eq_add, Nat.reduceEqDiff, List.set_cons_zero, List.set_cons_succ, hG] at hO); clear hG
  have hF := hO; (try simp only [Own, Item.Holds, apartI, CellsAt, Nat.reduceAdd, Nat.zero_add, List.mem_cons, List.not_mem_nil, or_false, forall_eq_or_imp, forall_eq, ne_eq, false_imp_iff, implies_true, and_true] at hF)
  simp [results, Tryd.results84, go_sem, hF]

/-- What is left of a slice behind its first note: the pointer stays where no room is left. -/
def tlP (q o c : Nat) (A' : Option Addr) (c' : Nat) : Prop := (c = 1 → A' = some ⟨q, o, none⟩ ∧ c' = 0) ∧ (¬ c = 1 → A' = some ⟨q, o + 6, none⟩ ∧ c' = c - 1)
theorem tl_ex (q o c : Nat) : ∃ A' c', tlP q o c A' c' := by
  by_cases h : c = 1
  · exact ⟨some ⟨q, o, none⟩, 0, fun _ => ⟨rfl, rfl⟩, fun h' => absurd h h'⟩
  · exact ⟨some ⟨q, o + 6, none⟩, c - 1, fun h' => absurd h' h, fun _ => ⟨rfl, rfl⟩⟩
theorem tl_at {q o c k c' : Nat} {A' : Option Addr} {l : List Nt} {w : World} (ht : tlP q o c A' c') (hk : 0 < k) (h : SlAt w (.slice (some ⟨q, o, none⟩) k c) k 6 (vcC l)) : SlAt w (.slice A' (k - 1) c') (k - 1) 6 (vcC (l.drop 1)) := by
  by_cases hc : c = 1
  · obtain ⟨rfl, rfl⟩ := ht.1 hc
    have hl := h.1
    rw [vcC_len] at hl
    rcases h.2 with ⟨h1, _⟩ | ⟨b', off', cap', h1, h2, h3, h4, h5⟩
    · cases h1
    · cases h1
      have e : l.drop 1 = [] := List.drop_eq_nil_of_le (by omega)
      rw [e, show k - 1 = 0 by omega]
      exact ⟨rfl, Or.inr ⟨q, o, 0, rfl, by omega, by omega, h4, fun j u hj => by simp [vcC] at hj⟩⟩
  · obtain ⟨rfl, rfl⟩ := ht.2 hc
    have := slAt_drop (m := 1) h (by omega)
    rwa [Nat.one_mul] at this

set_option maxHeartbeats 4000000 in
theorem frI_yes (q o k c c' : Nat) (A' : Option Addr) (s t : Int) (l : List Nt) (w : World) (hs : SlAt w (.slice (some ⟨q, o, none⟩) k c) k 6 (vcC l)) (hk : l.length = k) (h0 : 0 < k) (hz : enZ l s = t) (hb : -9223372036854775808 ≤ t ∧ t ≤ 9223372036854775807) (ht : tlP q o c A' c') :
    Calls Tryd.prog 84 #[.agg #[.slice (some ⟨q, o, none⟩) k c, .int .i64 s], .int .i64 t] w fun e w' => e = .returned (.agg #[.slice A' (k - 1) c', .int .i64 t]) ∧ Below w.heap.size w w' := by
  have hO := Own.start w
  have hF := True.intro
  have HE := hid (fun W (hW : Below w.heap.size w W) => enI_any (some ⟨q, o, none⟩) k c s t l W (hs.below hW) hk hz hb)
  obtain ⟨A2, c2, e, hk9, hA⟩ := hs.open
  cases e
  obtain ⟨q', o', e, hc1, hc2, hq⟩ := hA h0
  cases e
  have h1 : 1 ≤ k := h0
  have h2 : (1 : Int) ≤ (k : Int) := by omega
  clear hs hk hz hb hA
  by_cases hc : c = 1
  · obtain ⟨rfl, rfl⟩ := ht.1 hc
    subst hc
    obtain rfl : k = 1 := by omega
    clear ht
    go_enter Tryd.func84, Tryd.ntmps84
    go_wp2_with (go_at_call 83; apply own_at hO; (repeat (first | (with_reducible exact hO) | (with_reducible apply Own.alloc) | (with_reducible apply Own.drew) | ((with_reducible apply Own.set_at); (focus (show _ ≤ _; omega))))); have hG := hF; clear hF; clear hO; intro hO; refine own_call hO (fun hB => HE.out _ hB) ?_; clear hO; intro w1 hO; (try simp only [World.size_alloc1, World.size_drew, Nat.reduceAdd] at hO); (try simp only [upd, updI, List.map_cons, List.map_nil, eq_self, if_true, if_false, reduceIte, Nat.add_eq_left, Nat.left_eq_add, Nat.reduceEqDiff, List.set_cons_zero, List.set_cons_succ, hG] at hO); clear hG; have hF := hO; (try simp only [Own, Item.Holds, apartI, CellsAt, Nat.reduceAdd, Nat.zero_add, List.mem_cons, List.not_mem_nil, or_false, forall_eq_or_imp, forall_eq, ne_eq, false_imp_iff, implies_true, and_true] at hF))
    apply own_end hO
    (repeat (first | (with_reducible exact hO) | (with_reducible apply Own.alloc) | (with_reducible apply Own.drew) | ((with_reducible apply Own.set_at); (focus (show _ ≤ _; omega)))))
    have hG := hF; clear hF; clear hO; intro hO
    refine own_ret (v := .agg #[.slice (some ⟨q, o, none⟩) 0 0, .int .i64 t]) hO ?_ rfl (fun hO => ⟨rfl, hO.base⟩)
    clear hO; intro w1 hO
    (try simp only [World.size_alloc1, World.size_drew, Nat.reduceAdd] at hO); (try simp only [upd, updI, List.map_cons, List.map_nil, eq_self, if_true, if_false, reduceIte, Nat.add_eq_left, Nat.left_eq_add, Nat.reduceEqDiff, List.set_cons_zero, List.set_cons_succ, hG] at hO); clear hG
    have hF := hO; (try simp only [Own, Item.Holds, apartI, CellsAt, Nat.reduceAdd, Nat.zero_add, List.mem_cons, List.not_mem_nil, or_false, forall_eq_or_imp, forall_eq, ne_eq, false_imp_iff, implies_true, and_true] at hF)
    simp [results, Tryd.results84, go_sem, hF]
  · obtain ⟨rfl, rfl⟩ := ht.2 hc
    have hc3 : ¬ c - 1 = 0 := by omega
    clear ht
    go_enter Tryd.func84, Tryd.ntmps84
    go_wp2_with (go_at_call 83; apply own_at hO; (repeat (first | (with_reducible exact hO) | (with_reducible apply Own.alloc) | (with_reducible apply Own.drew) | ((with_reducible apply Own.set_at); (focus (show _ ≤ _; omega))))); have hG := hF; clear hF; clear hO; intro hO; refine own_call hO (fun hB => HE.out _ hB) ?_; clear hO; intro w1 hO; (try simp only [World.size_alloc1, World.size_drew, Nat.reduceAdd] at hO); (try simp only [upd, updI, List.map_cons, List.map_nil, eq_self, if_true, if_false, reduceIte, Nat.add_eq_left, Nat.left_eq_add, Nat.reduceEqDiff, List.set_cons_zero, List.set_cons_succ, hG] at hO); clear hG; have hF := hO; (try simp only [Own, Item.Holds, apartI, CellsAt, Nat.reduceAdd, Nat.zero_add, List.mem_cons, List.not_mem_nil, or_false, forall_eq_or_imp, forall_eq, ne_eq, false_imp_iff, implies_true, and_true] at hF))
    apply own_end hO
    (repeat (first | (with_reducible exact hO) | (with_reducible apply Own.alloc) | (with_reducible apply Own.drew) | ((with_reducible apply Own.set_at); (focus (show _ ≤ _; omega)))))
    have hG := hF; clear hF; clear hO; intro hO
    refine own_ret (v := .agg #[.slice (some ⟨q, o + 6, none⟩) (k - 1) (c - 1), .int .i64 t]) hO ?_ rfl (fun hO => ⟨rfl, hO.base⟩)
    clear hO; intro w1 hO
    (try simp only [World.size_alloc1, World.size_drew, Nat.reduceAdd] at hO); (try simp only [upd, updI, List.map_cons, List.map_nil, eq_self, if_true, if_false, reduceIte, Nat.add_eq_left, Nat.left_eq_add, Nat.reduceEqDiff, List.set_cons_zero, List.set_cons_succ, hG] at hO); clear hG
    have hF := hO; (try simp only [Own, Item.Holds, apartI, CellsAt, Nat.reduceAdd, Nat.zero_add, List.mem_cons, List.not_mem_nil, or_false, forall_eq_or_imp, forall_eq, ne_eq, false_imp_iff, implies_true, and_true] at hF)
    simp [results, Tryd.results84, go_sem, hF]
end Go.Proofs.YtmkhpafcgobfhaaDoor
