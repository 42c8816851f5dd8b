/- The functions that draw for a law of chapter 5: notes; voices. -/
import Derived.Test.YtepelgaekgllcaaDoorDrawsVo
import Derived.Test.YtepelgaekgllcaaDoorWalksWay
import Derived.Test.YtepelgaekgllcaaDoorWalksDrawP
namespace Go.Proofs.YtepelgaekgllcaaDoor
set_option linter.unusedSimpArgs false
set_option linter.unusedVariables false
open Go.RowKit

/-- What drawing a note for a law leaves; a voice; a voice and an interval; a voice and a tick. -/
def DrewNo (w : World) (e : Ending) (w' : World) : Prop :=
  ∃ x : Nt, ntOk x ∧ e = .returned (.agg #[.bool x.r, .int .i64 x.s, .int .i64 x.a, .int .i64 x.o, .int .i64 x.t, .bool x.y]) ∧ Below w.heap.size w w'
def DrewVs (w : World) (e : Ending) (w' : World) : Prop :=
  ∃ (u : Value) (v : List Nt), (∀ x ∈ v, ntOk x) ∧ v.length ≤ 61 ∧ e = .returned u ∧ Own w.heap.size (Below w.heap.size w) w' [.row 26 6 u v.length (vcC v)]
def DrewVi (w : World) (e : Ending) (w' : World) : Prop :=
  ∃ (u : Value) (v : List Nt) (st ha : Int), (∀ x ∈ v, ntOk x) ∧ v.length ≤ 61 ∧ (-100 ≤ st ∧ st ≤ 100) ∧ (-9223372036854775807 ≤ ha ∧ ha ≤ 9223372036854775807) ∧ e = .returned (.tuple #[u, .agg #[.int .i64 st, .int .i64 ha]]) ∧ Own w.heap.size (Below w.heap.size w) w' [.row 26 6 u v.length (vcC v)]
def DrewVt (w : World) (e : Ending) (w' : World) : Prop :=
  ∃ (u : Value) (v : List Nt) (t : Int), (∀ x ∈ v, ntOk x) ∧ v.length ≤ 61 ∧ (-1 ≤ t ∧ t ≤ 9223372036854775807) ∧ e = .returned (.tuple #[u, .int .i64 t]) ∧ Own w.heap.size (Below w.heap.size w) w' [.row 26 6 u v.length (vcC v)]

set_option maxHeartbeats 1000000 in
theorem DrawNoteValid_any (v : Value) (n : Nat) (w : World) (hn : n ≤ maxLen) (h : BytesB w w.heap.size v n) :
    Calls Tryd.prog 12 #[v] w (DrewNo w) := by
  have hO := Own.start w
  have hF := True.intro
  go_enter Tryd.func12, Tryd.ntmps12
  go_wp2_with fail
  apply own_at hO
  (repeat (first | (with_reducible exact hO) | (with_reducible apply Own.alloc) | (with_reducible apply Own.drew) | ((with_reducible apply Own.set_at); (focus (show _ ≤ _; omega)))))
  intro hO1
  refine (open_any v n _ hn (h.alloc _)).mono ?_
  rintro e w1 ⟨r, hr, rfl, hR, hb⟩
  have hne := hO1.ne_of hr
  have hr0 := Nat.le_trans hO1.low hr
  replace hO := hO1.below hb
  clear hO1 hb h hn
  go_wp2_with fail
  refine (l20Note_any r 0 _ _ hR (by omega) (by omega) (by omega)).mono ?_
  rintro e w2 ⟨x, hx, rfl, hR2, hB2⟩
  replace hO := hO.drawn hB2 hr0 hne
  have HX := hid hx
  clear hR hR2 hB2 hne hx
  have hG := hF
  (try simp only [World.size_alloc1, World.size_drew, Nat.reduceAdd] at hO); (try simp only [upd, updI, List.map_cons, List.map_nil, eq_self, if_true, if_false, reduceIte, Nat.add_eq_left, Nat.left_eq_add, Nat.reduceEqDiff, List.set_cons_zero, List.set_cons_succ, hG] at hO); clear hG
  clear hF
  have hF := hO; (try simp only [Own, Item.Holds, apartI, CellsAt, Nat.reduceAdd, Nat.zero_add, List.mem_cons, List.not_mem_nil, or_false, forall_eq_or_imp, forall_eq, ne_eq, false_imp_iff, implies_true, and_true] at hF)
  go_wp2
  apply own_end hO
  (repeat (first | (with_reducible exact hO) | (with_reducible apply Own.alloc) | (with_reducible apply Own.drew) | ((with_reducible apply Own.set_at); (focus (show _ ≤ _; omega)))))
  have hG := hF; clear hF; clear hO; intro hO
  refine own_ret (v := .agg #[.bool x.r, .int .i64 x.s, .int .i64 x.a, .int .i64 x.o, .int .i64 x.t, .bool x.y]) hO ?_ rfl (fun hO => ⟨x, HX.out, rfl, hO.base⟩)
  clear hO; intro w1 hO
  (try simp only [World.size_alloc1, World.size_drew, Nat.reduceAdd] at hO); (try simp only [upd, updI, List.map_cons, List.map_nil, eq_self, if_true, if_false, reduceIte, Nat.add_eq_left, Nat.left_eq_add, Nat.reduceEqDiff, List.set_cons_zero, List.set_cons_succ, hG] at hO); clear hG
  have hF := hO; (try simp only [Own, Item.Holds, apartI, CellsAt, Nat.reduceAdd, Nat.zero_add, List.mem_cons, List.not_mem_nil, or_false, forall_eq_or_imp, forall_eq, ne_eq, false_imp_iff, implies_true, and_true] at hF)
  simp [results, Tryd.results12, go_sem, hF]

theorem vs_own {w w1 w2 : World} {r : Nat} {u : Value} {v : List Nt} (hb : Below w.heap.size w w1) (hr : w.heap.size ≤ r) (hB : ButR r w1 w2) (ho : w2.ownsRow w1.heap.size 26 6 u v.length (vcC v)) : Own w.heap.size (Below w.heap.size w) w2 [.row 26 6 u v.length (vcC v)] :=
  ⟨⟨ownsRow_mono ho hb.size, fun _ h => by cases h⟩, Stab.plain w, hB.below hb hr⟩

/-- A row that a call has made joins what is owned. -/
theorem Own.joinRow {n b : Nat} {B : World → Prop} {w : World} {L : List Item} {e : TypeId} {size : Nat} {v : Value} {k : Nat} {xs : List Value} (h : Own n B w L) (hr : w.ownsRow b e size v k xs) (hnb : n ≤ b) (hb : ∀ x ∈ L, ∀ g, x.at? = some g → g < b) : Own n B w (.row e size v k xs :: L) :=
  ⟨⟨ownsRow_mono hr hnb, fun x hx => .of fun g hg e => by
    have h1 := hb x hx g hg
    have h2 := (World.ownsRow.lt hr g e).1
    omega⟩, h⟩

set_option maxHeartbeats 1000000 in
theorem DrawVoiceValid_any (v : Value) (n : Nat) (w : World) (hn : n ≤ maxLen) (h : BytesB w w.heap.size v n) :
    Calls Tryd.prog 16 #[v] w (DrewVs w) := by
  go_enter Tryd.func16, Tryd.ntmps16
  go_wp2_with fail
  refine (open_any v n _ hn h).mono ?_
  rintro e w1 ⟨r, hr, rfl, hR, hb⟩
  go_wp2_with fail
  refine (l20Voice_any r 0 _ _ hR (by omega) (by omega) (by omega)).mono ?_
  rintro e w2 ⟨u, vs, hv, hl, rfl, ho, hR2, hB2⟩
  have HO := hid (vs_own hb hr hB2 ho)
  have HV := hid hv
  clear hR hb h hn hR2 hB2 ho hv
  go_wp2
  go_ret
  exact ⟨u, vs, HV.out, hl, rfl, HO.out⟩

set_option maxHeartbeats 1000000 in
theorem DrawVoiceTicks_any (v : Value) (n : Nat) (w : World) (hn : n ≤ maxLen) (h : BytesB w w.heap.size v n) :
    Calls Tryd.prog 19 #[v] w (DrewVs w) := by
  go_enter Tryd.func19, Tryd.ntmps19
  go_wp2_with fail
  refine (open_any v n _ hn h).mono ?_
  rintro e w1 ⟨r, hr, rfl, hR, hb⟩
  go_wp2_with fail
  refine (l20Voice_any r 0 _ _ hR (by omega) (by omega) (by omega)).mono ?_
  rintro e w2 ⟨u, vs, hv, hl, rfl, ho, hR2, hB2⟩
  have HO := hid (vs_own hb hr hB2 ho)
  have HV := hid hv
  clear hR hb h hn hR2 hB2 ho hv
  go_wp2
  go_ret
  exact ⟨u, vs, HV.out, hl, rfl, HO.out⟩

set_option maxHeartbeats 1000000 in
theorem DrawJoinTies_any (v : Value) (n : Nat) (w : World) (hn : n ≤ maxLen) (h : BytesB w w.heap.size v n) :
    Calls Tryd.prog 25 #[v] w (DrewVs w) := by
  go_enter Tryd.func25, Tryd.ntmps25
  go_wp2_with fail
  refine (open_any v n _ hn h).mono ?_
  rintro e w1 ⟨r, hr, rfl, hR, hb⟩
  go_wp2_with fail
  refine (l20Voice_any r 0 _ _ hR (by omega) (by omega) (by omega)).mono ?_
  rintro e w2 ⟨u, vs, hv, hl, rfl, ho, hR2, hB2⟩
  have HO := hid (vs_own hb hr hB2 ho)
  have HV := hid hv
  clear hR hb h hn hR2 hB2 ho hv
  go_wp2
  go_ret
  exact ⟨u, vs, HV.out, hl, rfl, HO.out⟩

set_option maxHeartbeats 1000000 in
theorem DrawTurnVoice_any (v : Value) (n : Nat) (w : World) (hn : n ≤ maxLen) (h : BytesB w w.heap.size v n) :
    Calls Tryd.prog 33 #[v] w (DrewVs w) := by
  go_enter Tryd.func33, Tryd.ntmps33
  go_wp2_with fail
  refine (open_any v n _ hn h).mono ?_
  rintro e w1 ⟨r, hr, rfl, hR, hb⟩
  go_wp2_with fail
  refine (l20Voice_any r 0 _ _ hR (by omega) (by omega) (by omega)).mono ?_
  rintro e w2 ⟨u, vs, hv, hl, rfl, ho, hR2, hB2⟩
  have HO := hid (vs_own hb hr hB2 ho)
  have HV := hid hv
  clear hR hb h hn hR2 hB2 ho hv
  go_wp2
  go_ret
  exact ⟨u, vs, HV.out, hl, rfl, HO.out⟩

set_option maxHeartbeats 1000000 in
theorem DrawShiftVoice_any (v : Value) (n : Nat) (w : World) (hn : n ≤ maxLen) (h : BytesB w w.heap.size v n) :
    Calls Tryd.prog 29 #[v] w (DrewVi w) := by
  have hO := Own.start w
  have hF := True.intro
  go_enter Tryd.func29, Tryd.ntmps29
  go_wp2_with fail
  apply own_at hO
  (repeat (first | (with_reducible exact hO) | (with_reducible apply Own.alloc) | (with_reducible apply Own.drew) | ((with_reducible apply Own.set_at); (focus (show _ ≤ _; omega)))))
  intro hO1
  refine (open_any v n _ hn (h.alloc _)).mono ?_
  rintro e w1 ⟨r, hr, rfl, hR, hb⟩
  have hne := hO1.ne_of hr
  have hr0 := Nat.le_trans hO1.low hr
  replace hO := hO1.below hb
  have hrl := hR.lt
  clear hO1 hb h hn
  go_wp2_with fail
  refine (l20Voice_any r 0 _ _ hR (by omega) (by omega) (by omega)).mono ?_
  rintro e w2 ⟨u, vs, hv, hl, rfl, ho, hR2, hB2⟩
  have hO2 := (hO.drawn hB2 hr0 hne).joinRow ho (Nat.le_trans hr0 (Nat.le_of_lt hrl)) (fun x hx g hg => by have := (hO.lt x hx g hg).2; exact this)
  have hne2 : ∀ x ∈ [Item.row 26 6 u vs.length (vcC vs), Item.blk w.heap.size [Value.int .i64 0, .int .i64 0]], x.at? ≠ some r := fun x hx e => by
    rcases List.mem_cons.1 hx with rfl | hx
    · have := (World.ownsRow.lt ho r e).1; omega
    · exact hne x hx e
  have HV := hid hv
  clear hR hB2 hO hne ho hv
  go_wp2_with fail
  refine (l20Way_any r (0 + 500) _ _ hR2 (by omega) (by omega) (by omega)).mono ?_
  rintro e w3 ⟨st, ha, h1, h2, rfl, hR3, hB3⟩
  have hO := hO2.drawn hB3 hr0 hne2
  clear hR2 hR3 hB3 hO2 hne2
  have hG := hF
  (try simp only [World.size_alloc1, World.size_drew, Nat.reduceAdd] at hO); (try simp only [upd, updI, List.map_cons, List.map_nil, eq_self, if_true, if_false, reduceIte, Nat.add_eq_left, Nat.left_eq_add, Nat.reduceEqDiff, List.set_cons_zero, List.set_cons_succ, hG] at hO); clear hG
  clear hF
  have hF := hO; (try simp only [Own, Item.Holds, apartI, CellsAt, Nat.reduceAdd, Nat.zero_add, List.mem_cons, List.not_mem_nil, or_false, forall_eq_or_imp, forall_eq, ne_eq, false_imp_iff, implies_true, and_true] at hF)
  go_wp2
  apply own_end hO
  (repeat (first | (with_reducible exact hO) | (with_reducible apply Own.alloc) | (with_reducible apply Own.drew) | ((with_reducible apply Own.set_at); (focus (show _ ≤ _; omega)))))
  have hG := hF
  clear hF
  clear hO
  intro hO
  simp only [upd, updI, List.map_cons, List.map_nil, eq_self, if_true, if_false, reduceIte, List.set_cons_zero, List.set_cons_succ, hG] at hO
  clear hG
  refine own_ret (v := .tuple #[u, .agg #[.int .i64 st, .int .i64 ha]]) hO ?_ rfl (fun hO => ⟨u, vs, st, ha, HV.out, hl, h1, h2, rfl, Own.sub (.cons_cons _ (.cons _ .slnil)) hO⟩)
  clear hO
  intro w4 hO
  have hF := hO; (try simp only [Own, Item.Holds, apartI, CellsAt, Nat.reduceAdd, Nat.zero_add, List.mem_cons, List.not_mem_nil, or_false, forall_eq_or_imp, forall_eq, ne_eq, false_imp_iff, implies_true, and_true] at hF)
  simp [results, Tryd.results29, go_sem, hF]
end Go.Proofs.YtepelgaekgllcaaDoor
