/- Pitches in memory: their cells; the laws' own functions over slices of pitches. -/
import Derived.Test.YtieoobanpllmgaaDoorWalksPS
import Derived.Test.YtieoobanpllmgaaDoorOwn
import Derived.Test.YtieoobanpllmgaaDoorPure10
namespace Go.Proofs.YtieoobanpllmgaaDoor
set_option linter.unusedSimpArgs false
set_option linter.unusedVariables false
set_option maxRecDepth 8000
open Go.RowKit

/-- The cells of a pitch; of a list. -/
def ptC (x : Pt) : List Value := [.int .i64 x.s, .int .i64 x.a, .int .i64 x.o]
def pcC (v : List Pt) : List Value := v.flatMap ptC
theorem pcC_nil : pcC [] = [] := rfl
theorem pcC_append (u v : List Pt) : pcC (u ++ v) = pcC u ++ pcC v := by simp [pcC]
theorem pcC_snoc (u : List Pt) (x : Pt) : pcC u ++ [.int .i64 x.s, .int .i64 x.a, .int .i64 x.o] = pcC (u ++ [x]) := by simp [pcC, ptC]
theorem pcC_len : ∀ v : List Pt, (pcC v).length = v.length * 3
  | [] => rfl
  | x :: l => by
    have := pcC_len l
    simp only [pcC, List.flatMap_cons, List.length_append, List.length_cons] at this ⊢
    rw [this]
    have hx : (ptC x).length = 3 := rfl
    omega
theorem pcC_at : ∀ {v : List Pt} {k : Nat} {x : Pt}, v[k]? = some x → (pcC v)[k * 3]? = some (.int .i64 x.s) ∧ (pcC v)[k * 3 + 1]? = some (.int .i64 x.a) ∧ (pcC v)[k * 3 + 2]? = some (.int .i64 x.o)
  | [], k, x, h => by simp at h
  | z :: l, 0, x, h => by
    simp at h
    subst h
    exact ⟨rfl, rfl, rfl⟩
  | z :: l, k + 1, x, h => by
    have ih := pcC_at (v := l) (k := k) (x := x) (by simpa using h)
    have hz : (ptC z).length = 3 := rfl
    have e : ∀ i, (pcC (z :: l))[(k + 1) * 3 + i]? = (pcC l)[k * 3 + i]? := fun i => by
      show (ptC z ++ pcC l)[(k + 1) * 3 + i]? = _
      rw [List.getElem?_append_right (by omega)]
      congr 1; omega
    have e0 := e 0
    simp only [Nat.add_zero] at e0
    rw [e0, e 1, e 2]
    exact ih
theorem pcC_int (v : List Pt) : AllInt (pcC v) := by
  intro j u h
  have := List.mem_of_getElem? h
  unfold pcC at this
  obtain ⟨x, _, hx⟩ := List.mem_flatMap.1 this
  simp [ptC] at hx
  rcases hx with rfl | rfl | rfl <;> exact ⟨_, rfl⟩
theorem one3t {x y z : Int} : ∀ u ∈ [Value.int .i64 x, .int .i64 y, .int .i64 z], u.oneCell' = true := by
  intro u hu
  simp at hu
  rcases hu with rfl | rfl | rfl <;> rfl

theorem infoPi : (Tryd.prog.info? 37).map (fun i => (i.zero, i.size, i.bytes)) = some (some (.agg #[.int .i64 0, .int .i64 0, .int .i64 0]), 3, 24) := by kernel_rfl

theorem ptAt {w : World} {b off cap n : Nat} {v : List Pt} (h : SlAt w (.slice (some ⟨b, off, none⟩) n cap) n 3 (pcC v)) {j : Nat} {x : Pt} (hx : v[j]? = some x) :
    w.cell? ⟨b, off + j * 3, none⟩ = some (.int .i64 x.s) ∧ w.cell? ⟨b, off + j * 3 + 1, none⟩ = some (.int .i64 x.a) ∧ w.cell? ⟨b, off + j * 3 + 2, none⟩ = some (.int .i64 x.o) := by
  obtain ⟨h0, h1, h2⟩ := pcC_at hx
  exact ⟨h.cellAt h0, h.cellAt h1, h.cellAt h2⟩

/-- A slice of pitches that came in. -/
def PtsAt (w : World) (va : Value) (l : List Pt) : Prop := (l = [] ∧ ∃ a c, va = .slice a 0 c) ∨ SlAt w va l.length 3 (pcC l)
theorem PtsAt.below {w w' : World} {va : Value} {l : List Pt} (h : PtsAt w va l) (hb : Below w.heap.size w w') : PtsAt w' va l := h.imp id fun h => h.below hb

set_option maxHeartbeats 1000000 in
theorem szP_any (va : Value) (l : List Pt) (n : Int) (w : World) (h : PtsAt w va l) (h0 : 0 ≤ n) (h1 : n ≤ 1000000000) (hl : (l.length : Int) ≤ 9223372036854775807) :
    Calls Tryd.prog 23 #[va, .int .i64 n] w fun e w' => e = .returned (.int .i64 (if n < l.length then -1 else n - l.length)) ∧ w = w' := by
  obtain ⟨A, c, rfl⟩ : ∃ a c, va = .slice a l.length c := by
    rcases h with ⟨rfl, a, c, rfl⟩ | h
    · exact ⟨a, c, rfl⟩
    · exact h.form
  clear h
  obtain ⟨k, hk⟩ : ∃ k, l.length = k := ⟨_, rfl⟩
  rw [hk] at hl ⊢
  clear hk
  have h9 : IntKind.i64.wrap (n - k) = n - k := IntWalk.i64_in _ (by omega)
  by_cases hn : n < k
  · have h2 : n - (k : Int) < 0 := by omega
    have HE := hid (show (if n < k then -1 else n - (k : Int)) = -1 by rw [if_pos hn])
    clear hn
    go_enter Tryd.func23, Tryd.ntmps23
    go_wp2
    go_ret
    exact ⟨rfl, rfl⟩
  · have h2 : 0 ≤ n - (k : Int) := by omega
    have HE := hid (show (if n < k then -1 else n - (k : Int)) = n - k by rw [if_neg hn])
    clear hn
    go_enter Tryd.func23, Tryd.ntmps23
    go_wp2
    go_ret
    exact ⟨rfl, rfl⟩
theorem szP_is {va : Value} {l : List Pt} {w : World} {r : Int} (h : PtsAt w va l) (hm : l.length ≤ maxLen) (hr : (if (1048576 : Int) < (l.length : Int) then (-1 : Int) else 1048576 - (l.length : Int)) = r) (W : World) (hW : Below w.heap.size w W) :
    Calls Tryd.prog 23 #[va, .int .i64 1048576] W fun e w' => e = .returned (.int .i64 r) ∧ W = w' := by
  subst hr
  exact szP_any va l 1048576 W (h.below hW) (by omega) (by omega) (by unfold maxLen at hm; omega)

def pt0 : Pt := ⟨0, 0, 0⟩
theorem madeP (n : Nat) : (madeCells (Value.agg #[.int .i64 0, .int .i64 0, .int .i64 0]).cells (n * 3)).toList = pcC (List.replicate n pt0) := by
  have hz : (Value.agg #[.int .i64 0, .int .i64 0, .int .i64 0]).cells = #[.int .i64 0, .int .i64 0, .int .i64 0] := by kernel_rfl
  rw [hz]
  have := made_rep #[Value.int .i64 0, .int .i64 0, .int .i64 0] (by decide) n
  rw [show (#[Value.int .i64 0, .int .i64 0, .int .i64 0] : Array Value).size = 3 from rfl] at this
  rw [this, pcC, List.flatMap_def, List.map_replicate]
  rfl
theorem set3t {α : Type} {a b c a' b' c' : α} {zs : List α} {i : Nat} : ∀ {xs : List α}, xs.length = i → (((xs ++ a :: b :: c :: zs).set i a').set (i + 1) b').set (i + 2) c' = xs ++ (a' :: b' :: c' :: zs) := by
  intro xs h
  subst h
  simp [List.set_append]
theorem pcC_put {u : List Pt} {z x : Pt} {r : List Pt} {j : Nat} (h : u.length = j) :
    (((pcC (u ++ z :: r)).set (j * 3) (.int .i64 x.s)).set (j * 3 + 1) (.int .i64 x.a)).set (j * 3 + 2) (.int .i64 x.o) = pcC (u ++ x :: r) := by
  have hl := pcC_len u
  rw [pcC_append, pcC_append]
  show (((pcC u ++ (_ :: _ :: _ :: pcC r)).set _ _).set _ _).set _ _ = _
  rw [set3t (by omega)]
  rfl
/-- The first j pitches are laid, the others are zero. -/
def mixP (v : List Pt) (j : Nat) : List Pt := v.take j ++ List.replicate (v.length - j) pt0
theorem mixP_len (v : List Pt) (j : Nat) (h : j ≤ v.length) : (mixP v j).length = v.length := by simp [mixP]; omega
theorem mixP_full (v : List Pt) : mixP v v.length = v := by simp [mixP]
theorem mixP_zero (v : List Pt) : mixP v 0 = List.replicate v.length pt0 := by simp [mixP]
theorem mixP_put {v : List Pt} {j : Nat} {x : Pt} (hx : v[j]? = some x) :
    (((pcC (mixP v j)).set (j * 3) (.int .i64 x.s)).set (j * 3 + 1) (.int .i64 x.a)).set (j * 3 + 2) (.int .i64 x.o) = pcC (mixP v (j + 1)) := by
  have hl := (List.getElem?_eq_some_iff.1 hx).1
  unfold mixP
  rw [show v.length - j = (v.length - (j + 1)) + 1 by omega, List.replicate_succ, pcC_put (by simp; omega), List.take_add_one, hx]
  simp [pcC_append]

set_option maxHeartbeats 4000000 in
theorem toPS_some (va : Value) (v : List Pt) (w : World) (ha : SlAt w va v.length 3 (pcC v)) (hn : v.length ≤ 1048576) :
    Calls Tryd.prog 24 #[va] w (RowOut 37 3 v.length (pcC v) w) := by
  have hO := Own.start w
  have hF := True.intro
  obtain ⟨i0, hi, hz0, hz1, hz2⟩ := info_parts infoPi
  obtain ⟨A, c, rfl, nb, hA⟩ := ha.open
  have HA := hid ha
  clear ha
  obtain ⟨n, hnl⟩ : ∃ n, v.length = n := ⟨_, rfl⟩
  have HN := hid hnl
  rw [hnl] at hn nb hA HA
  rw [hnl]
  go_enter Tryd.func24, Tryd.ntmps24
  go_wp2_with (at_make; go_loud (refine wpList_make_item rfl _ _ 23 rfl 37 i0 (.agg #[.int .i64 0, .int .i64 0, .int .i64 0]) 3 24 Tryd.underlying23 hi hz0 hz1 hz2 _ _ _ _ n rfl rfl rfl rfl (by omega) (by unfold maxLen; omega) (by (repeat (first | (with_reducible exact hO) | (with_reducible apply Own.alloc) | (with_reducible apply Own.drew) | ((with_reducible apply Own.set_at); (focus (show _ ≤ _; omega)))))) ?_); clear hO hF; intro q w2 hO; have hF := True.intro)
  rw [madeP n, show List.replicate n pt0 = mixP v 0 by rw [mixP_zero, hnl]] at hO
  clear hnl
  go_loopw [4] (fun t wr => ∃ j : Nat, j ≤ n ∧ t = .int .i64 j ∧ Own w.heap.size (Below w.heap.size w) wr [.row 37 3 (.slice (some ⟨q, 0, none⟩) n n) n (pcC (mixP v j))]) (fun t _ => n - (intOf t).toNat)
  case atStart => exact ⟨0, by omega, rfl, hO⟩
  case round =>
    clear hO
    obtain ⟨j, hj, rfl, hO⟩ := hrel
    by_cases he : j = n
    · subst he
      rw [show mixP v j = v by rw [← HN.out]; exact mixP_full v] at hO
      go_wp2_with fail
      go_ret
      exact RowOut.mk hO
    · have hlt : j < n := by omega
      have hlt2 : (j : Int) < n := by omega
      obtain ⟨b, off, rfl, hc1, hc2, hb⟩ := hA (by omega)
      obtain ⟨x, hx⟩ : ∃ x, v[j]? = some x := ⟨_, List.getElem?_eq_getElem (by have := HN.out; omega)⟩
      have hm := mixP_len v j (by have := HN.out; omega)
      obtain ⟨z, hz⟩ : ∃ z, (mixP v j)[j]? = some z := ⟨_, List.getElem?_eq_getElem (by have := HN.out; omega)⟩
      obtain ⟨d0, d1, d2⟩ := ptAt (HA.out.below hO.base) hx
      have HE := hid (pcC_at hz)
      have HP := hid (mixP_put hx)
      clear he hj hm hz hx
      have hF := True.intro
      go_wp2_with ((go_at_call 45; apply own_at hO; (repeat (first | (with_reducible exact hO) | (with_reducible apply Own.alloc) | (with_reducible apply Own.drew) | ((with_reducible apply Own.set_at); (focus (show _ ≤ _; omega))))); have hG := hF; clear hF; clear hO; intro hO; refine own_call hO (fun hB => toPitch_any _ _ _ _) ?_; clear hO; intro w1 hO; (try simp only [World.size_alloc1, World.size_drew, Nat.reduceAdd] at hO); (try simp only [upd, updI, List.map_cons, List.map_nil, eq_self, if_true, if_false, reduceIte, Nat.add_eq_left, Nat.left_eq_add, Nat.reduceEqDiff, List.set_cons_zero, List.set_cons_succ, hG] at hO); clear hG; have hF := hO; (try simp only [Own, Item.Holds, apartI, CellsAt, Nat.reduceAdd, Nat.zero_add, List.mem_cons, List.not_mem_nil, or_false, forall_eq_or_imp, forall_eq, ne_eq, false_imp_iff, implies_true, and_true] at hF)); have c0 := hO.row_cell HE.out.1; have c1 := hO.row_cell HE.out.2.1; have c2 := hO.row_cell HE.out.2.2; have r0 := hO.row_free (j * 3); have r1 := hO.row_free (j * 3 + 1); have r2 := hO.row_free (j * 3 + 2); have hO2 := ((hO.row_set (j * 3) (.int .i64 x.s)).row_set (j * 3 + 1) (.int .i64 x.a)).row_set (j * 3 + 2) (.int .i64 x.o); rw [HP.out] at hO2; clear hO hF)
      go_roundw
      case rel => exact ⟨j + 1, by omega, by go_num, hO2⟩
      case measure => simp [intOf]; omega

set_option maxHeartbeats 4000000 in
theorem toPS_any (va : Value) (l : List Pt) (w : World) (h : PtsAt w va l) (hn : l.length ≤ 1048576) :
    Calls Tryd.prog 24 #[va] w (RowOut 37 3 l.length (pcC l) w) := by
  rcases h with ⟨rfl, a, c, rfl⟩ | h
  · have hO := Own.start w
    have hF := True.intro
    obtain ⟨i0, hi, hz0, hz1, hz2⟩ := info_parts infoPi
    go_enter Tryd.func24, Tryd.ntmps24
    go_wp2_with (at_make; go_loud (refine wpList_make_item rfl _ _ 23 rfl 37 i0 (.agg #[.int .i64 0, .int .i64 0, .int .i64 0]) 3 24 Tryd.underlying23 hi hz0 hz1 hz2 _ _ _ _ 0 rfl rfl rfl rfl (by omega) (by unfold maxLen; omega) (by (repeat (first | (with_reducible exact hO) | (with_reducible apply Own.alloc) | (with_reducible apply Own.drew) | ((with_reducible apply Own.set_at); (focus (show _ ≤ _; omega)))))) ?_); clear hO hF; intro q w2 hO; have hF := True.intro)
    rw [madeP 0] at hO
    go_loopw [4] (fun t wr => t = .int .i64 0 ∧ Own w.heap.size (Below w.heap.size w) wr [.row 37 3 (.slice (some ⟨q, 0, none⟩) 0 0) 0 (pcC [])]) (fun _ _ => 0)
    case atStart => exact ⟨rfl, hO⟩
    case round =>
      clear hO
      obtain ⟨rfl, hO⟩ := hrel
      go_wp2_with fail
      go_ret
      exact RowOut.mk hO
  · exact toPS_some va l w h hn

/-- A pitch of 64 bits. -/
def p64s (x : Pt) : Prop := r64 x.s ∧ r64 x.a ∧ r64 x.o
theorem p64_of {x : Pt} (h : (-1 ≤ x.s ∧ x.s ≤ 7) ∧ (-3 ≤ x.a ∧ x.a ≤ 3) ∧ (-1 ≤ x.o ∧ x.o ≤ 9)) : p64s x := by
  unfold p64s r64; omega
theorem p64_pv {x : Pt} (h : pvP x = true) : p64s x := by
  have := pvP_iff.1 h
  unfold p64s r64; omega
end Go.Proofs.YtieoobanpllmgaaDoor
