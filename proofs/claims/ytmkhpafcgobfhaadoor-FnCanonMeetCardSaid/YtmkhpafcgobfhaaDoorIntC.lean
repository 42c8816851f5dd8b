/- Integers as cells. -/
import Derived.Test.YtmkhpafcgobfhaaDoorWalksPS
import Derived.Test.YtmkhpafcgobfhaaDoorRegionD
namespace Go.Proofs.YtmkhpafcgobfhaaDoor
set_option linter.unusedSimpArgs false
set_option linter.unusedVariables false
set_option maxRecDepth 8000
open Go.RowKit

theorem infoI10 : (Tryd.prog.info? 3).map (fun i => (i.zero, i.size, i.bytes)) = some (some (.int .i64 0), 1, 8) := by kernel_rfl
theorem one1t {x : Int} : ∀ u ∈ [Value.int .i64 x], u.oneCell' = true := by
  intro u hu
  simp at hu
  subst hu
  rfl
def intC (l : List Int) : List Value := l.map (Value.int .i64)
theorem intC_int (u : List Int) : AllInt (intC u) := fun j v h => by
  unfold intC at h
  rw [List.getElem?_map] at h
  cases e : u[j]? with
  | none => rw [e] at h; cases h
  | some z => rw [e] at h; exact ⟨z, (Option.some.inj h).symm⟩
theorem intC_len (u : List Int) : (intC u).length = u.length := by simp [intC]
/-- A number of 64 bits. -/
abbrev i64b (x : Int) : Prop := -9223372036854775808 ≤ x ∧ x ≤ 9223372036854775807

/- Integers in slices: what came in, copies, parts of a slice. -/
open Go.RowKit

/-- A slice of integers that came in, empty or not. -/
def IntsIn (w : World) (va : Value) (l : List Int) : Prop := (l = [] ∧ ∃ a c, va = .slice a 0 c) ∨ SlAt w va l.length 1 (intC l)
theorem IntsIn.below {w w' : World} {va : Value} {l : List Int} (h : IntsIn w va l) (hb : Below w.heap.size w w') : IntsIn w' va l := h.imp id fun h => h.below hb
theorem intC_get {l : List Int} {j : Nat} {x : Int} (h : l[j]? = some x) : (intC l)[j]? = some (.int .i64 x) := by
  unfold intC; rw [List.getElem?_map, h]; rfl
theorem intC_of {l : List Int} {j : Nat} {u : Value} (h : (intC l)[j]? = some u) : ∃ x, l[j]? = some x ∧ u = .int .i64 x := by
  unfold intC at h
  rw [List.getElem?_map] at h
  cases e : l[j]? with
  | none => rw [e] at h; cases h
  | some x => rw [e] at h; exact ⟨x, rfl, (Option.some.inj h).symm⟩
theorem inAt {w : World} {b off cap n : Nat} {l : List Int} (h : SlAt w (.slice (some ⟨b, off, none⟩) n cap) n 1 (intC l)) {j : Nat} {x : Int} (hx : l[j]? = some x) : w.cell? ⟨b, off + j, none⟩ = some (.int .i64 x) := h.cellAt (intC_get hx)
theorem IntsIn.open11 {w : World} {va : Value} {l : List Int} (h : IntsIn w va l) : ∃ A c, va = .slice A l.length c ∧ (0 < l.length → ∃ b off, A = some ⟨b, off, none⟩ ∧ l.length ≤ c ∧ c ≤ 9223372036854775807 ∧ b < w.heap.size ∧ ∀ (j : Nat) (x : Int), l[j]? = some x → w.cell? ⟨b, off + j, none⟩ = .some (.int .i64 x)) := by
  rcases h with ⟨rfl, a, c, rfl⟩ | h
  · exact ⟨a, c, rfl, fun h => by simp at h⟩
  · obtain ⟨A, c, rfl, nb, hA⟩ := h.open
    refine ⟨A, c, rfl, fun hp => ?_⟩
    obtain ⟨b, off, rfl, h1, h2, h3⟩ := hA hp
    exact ⟨b, off, rfl, h1, h2, h3, fun j x hj => inAt h hj⟩
/-- The first m of a slice; a part of it. -/
theorem slAt_takeN {w : World} {b off cap n m : Nat} {l : List Int} (h : SlAt w (.slice (some ⟨b, off, none⟩) n cap) n 1 (intC l)) (hm : m ≤ n) : SlAt w (.slice (some ⟨b, off, none⟩) m cap) m 1 (intC (l.take m)) := by
  have hl := h.1
  rw [intC_len] at hl
  rcases h.2 with ⟨h1, _⟩ | ⟨b', off', cap', h1, h2, h3, h4, h5⟩
  · cases h1
  · cases h1
    exact ⟨by rw [intC_len, List.length_take]; omega, Or.inr ⟨b, off, cap, rfl, by omega, h3, h4, fun j u hj => by
      obtain ⟨x, hx, rfl⟩ := intC_of hj
      have hlt := (List.getElem?_eq_some_iff.1 hx).1
      rw [List.length_take] at hlt
      rw [List.getElem?_take_of_lt (by omega)] at hx
      exact h5 j _ (intC_get hx)⟩⟩
theorem slAt_dropN {w : World} {b off cap n m : Nat} {l : List Int} (h : SlAt w (.slice (some ⟨b, off, none⟩) n cap) n 1 (intC l)) (hm : m ≤ n) : SlAt w (.slice (some ⟨b, off + m, none⟩) (n - m) (cap - m)) (n - m) 1 (intC (l.drop m)) := by
  have hl := h.1
  rw [intC_len] at hl
  rcases h.2 with ⟨h1, _⟩ | ⟨b', off', cap', h1, h2, h3, h4, h5⟩
  · cases h1
  · cases h1
    exact ⟨by rw [intC_len, List.length_drop]; omega, Or.inr ⟨b, off + m, cap - m, rfl, by omega, by omega, h4, fun j u hj => by
      obtain ⟨x, hx, rfl⟩ := intC_of hj
      rw [List.getElem?_drop] at hx
      rw [show off + m + j = off + (m + j) by omega]
      exact h5 _ _ (intC_get hx)⟩⟩
theorem get_upN {α : Type} {l : List α} {k : Nat} {x : α} (h : l[k]? = some x) : l.take (k + 1) = l.take k ++ [x] := by rw [List.take_add_one, h]; rfl
theorem madeZn (n : Nat) : (madeCells (Value.int .i64 0).cells (n * 1)).toList = intC (List.replicate n 0) := by
  have hz : (Value.int .i64 0).cells = #[.int .i64 0] := by kernel_rfl
  rw [hz]
  have := made_rep #[Value.int .i64 0] (by decide) n
  rw [show (#[Value.int .i64 0] : Array Value).size = 1 from rfl] at this
  rw [this]
  show _ = List.map (Value.int .i64) (List.replicate n 0)
  rw [List.map_replicate]
  clear this hz
  induction n with
  | zero => rfl
  | succ n ih => rw [List.replicate_succ, List.flatten_cons, ih, List.replicate_succ]; rfl
/-- The first k of them are laid, the others zero. -/
def mixZn (u : List Int) (k : Nat) : List Int := u.take k ++ List.replicate (u.length - k) 0
theorem mixZn_zero (u : List Int) : mixZn u 0 = List.replicate u.length 0 := by simp [mixZn]
theorem mixZn_full (u : List Int) : mixZn u u.length = u := by simp [mixZn]
theorem mixZn_len (u : List Int) {k : Nat} (h : k ≤ u.length) : (mixZn u k).length = u.length := by simp [mixZn]; omega
theorem mixZn_put {u : List Int} {k : Nat} {x : Int} (h : u[k]? = some x) : (intC (mixZn u k)).set k (.int .i64 x) = intC (mixZn u (k + 1)) := by
  have hl := (List.getElem?_eq_some_iff.1 h).1
  unfold mixZn
  rw [get_upN h, show u.length - k = (u.length - (k + 1)) + 1 by omega, List.replicate_succ]
  have ht : (u.take k).length = k := by rw [List.length_take]; omega
  unfold intC
  rw [← List.map_set, List.set_append, if_neg (by omega), ht, Nat.sub_self, List.set_cons_zero, List.append_assoc]
  rfl

/-- Two slices of integers are compared, whatever is in them. -/
theorem sameInts_some (va vb : Value) (l r : List Int) (n k : Nat) (w : World) (hn : l.length = n) (hk : r.length = k) (ha : SlAt w va n 1 (intC l)) (hb : SlAt w vb k 1 (intC r)) (h9 : n ≤ 1048576) :
    Calls Tryd.prog 39 #[va, vb] w fun e w' => ∃ b : Bool, e = .returned (.bool b) ∧ Below w.heap.size w w' := by
  by_cases hnk : n = k
  · subst hnk
    have hO := Own.start w
    have hF := True.intro
    obtain ⟨A, c, rfl, na, hA⟩ := ha.open
    obtain ⟨A', c', rfl, nb, hB⟩ := hb.open
    have HA := hid ha
    have HB := hid hb
    have HN := hid (And.intro hn hk)
    clear ha hb hn hk
    go_enter Tryd.func39, Tryd.ntmps39
    go_wp2_with fail
    go_loopw [5] (fun t wr => ∃ j : Nat, j ≤ n ∧ t = .int .i64 j ∧ Own w.heap.size (Below w.heap.size w) wr []) (fun t _ => n - (intOf t).toNat)
    case atStart => exact ⟨0, by omega, rfl, hO⟩
    case round =>
      clear hO
      obtain ⟨j, hj, rfl, hO⟩ := hrel
      by_cases he : j = n
      · subst he
        go_wp2
        go_ret
        exact ⟨_, rfl, hO.base⟩
      · have hlt : j < n := by omega
        have hlt2 : (j : Int) < n := by omega
        obtain ⟨b1, o1, rfl, k1, m1, l1⟩ := hA (by omega)
        obtain ⟨b2, o2, rfl, k2, m2, l2⟩ := hB (by omega)
        obtain ⟨x, hx⟩ : ∃ x, l[j]? = some x := ⟨_, List.getElem?_eq_getElem (by have := HN.out.1; omega)⟩
        obtain ⟨y, hy⟩ : ∃ x, r[j]? = some x := ⟨_, List.getElem?_eq_getElem (by have := HN.out.2; omega)⟩
        have HX := hid (And.intro hx hy)
        obtain ⟨g, hg⟩ : ∃ g, (x == y) = g := ⟨_, rfl⟩
        clear he hx hy
        cases g
        all_goals
          go_wp2_with fail
          apply own_code hO
          (repeat (first | (with_reducible exact hO) | (with_reducible apply Own.alloc) | (with_reducible apply Own.drew) | ((with_reducible apply Own.set_at); (focus (show _ ≤ _; omega)))))
          have hG := hF; clear hF; clear hO; intro hO
          (try simp only [World.size_alloc1, World.size_drew, Nat.reduceAdd] at hO); (try simp only [upd, updI, List.map_cons, List.map_nil, eq_self, if_true, if_false, reduceIte, Nat.add_eq_left, Nat.left_eq_add, Nat.reduceEqDiff, List.set_cons_zero, List.set_cons_succ, hG] at hO); clear hG
          refine region_own (X := fun _ => True) [] (by kernel_rfl) (hO) (trivial) (by first | exact XStab.true | exact XStab.rd | exact XStab.rdIf) ?_
          clear hO
          refine Sim.sP (i := 0) (d := some 17) (h := ?_)
          refine Sim.sP (i := 1) (d := some 18) (h := ?_)
          refine Sim.sP (i := 2) (d := some 19) (h := ?_)
          refine Sim.sO (i := 3) (d := some 20) (v := ?_) (hy := ?_) (h := ?_)
          rotate_left
          · first | refine Or.inl ⟨by rfl, fun w hO => ?_⟩ | (refine Or.inr ⟨by rfl, ?_⟩; with_reducible rfl)
            first | done | (have hF := hO; (try simp only [Own, Item.Holds, apartI, CellsAt, Nat.reduceAdd, Nat.zero_add, List.mem_cons, List.not_mem_nil, or_false, forall_eq_or_imp, forall_eq, ne_eq, false_imp_iff, implies_true, and_true] at hF); ((have d0 := inAt (HA.out.below hO.base) HX.out.1; have g0 := inAt (HB.out.below hO.base) HX.out.2)); refine Out.same ?_; go_simp; all_goals with_reducible rfl)
          refine Sim.sP (i := 4) (d := some 21) (h := ?_)
          refine Sim.sP (i := 5) (d := some 22) (h := ?_)
          refine Sim.sP (i := 6) (d := some 23) (h := ?_)
          refine Sim.sO (i := 7) (d := some 24) (v := ?_) (hy := ?_) (h := ?_)
          rotate_left
          · first | refine Or.inl ⟨by rfl, fun w hO => ?_⟩ | (refine Or.inr ⟨by rfl, ?_⟩; with_reducible rfl)
            first | done | (have hF := hO; (try simp only [Own, Item.Holds, apartI, CellsAt, Nat.reduceAdd, Nat.zero_add, List.mem_cons, List.not_mem_nil, or_false, forall_eq_or_imp, forall_eq, ne_eq, false_imp_iff, implies_true, and_true] at hF); ((have d0 := inAt (HA.out.below hO.base) HX.out.1; have g0 := inAt (HB.out.below hO.base) HX.out.2)); refine Out.same ?_; go_simp; all_goals with_reducible rfl)
          refine Sim.sP (i := 8) (d := some 25) (h := ?_)
          refine Sim.done (by kernel_rfl) (fun w1 hO hX => ?_) _
          (try simp only [World.size_alloc1, World.size_drew, Nat.reduceAdd] at hO); (try simp only [upd, updI, List.map_cons, List.map_nil, eq_self, if_true, if_false, reduceIte, Nat.add_eq_left, Nat.left_eq_add, Nat.reduceEqDiff, List.set_cons_zero, List.set_cons_succ] at hO)
          have hF := hO; (try simp only [Own, Item.Holds, apartI, CellsAt, Nat.reduceAdd, Nat.zero_add, List.mem_cons, List.not_mem_nil, or_false, forall_eq_or_imp, forall_eq, ne_eq, false_imp_iff, implies_true, and_true] at hF)
          go_wp2
          first | (go_ret; exact ⟨_, rfl, hO.base⟩) | skip
        go_roundw
        case rel => exact ⟨j + 1, by omega, by go_num, hO⟩
        case measure => simp [intOf]; omega
  · obtain ⟨A, c, rfl⟩ := ha.form
    obtain ⟨A', c', rfl⟩ := hb.form
    have h1 : ((n : Int) == (k : Int)) = false := by simp; omega
    have h2 : ¬ (n : Int) = (k : Int) := by omega
    clear ha hb hn hk
    go_enter Tryd.func39, Tryd.ntmps39
    go_wp2
    go_ret
    exact ⟨_, rfl, Below.refl _ _⟩
end Go.Proofs.YtmkhpafcgobfhaaDoor
