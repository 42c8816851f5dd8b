/- make([]T, n) among what a call owns; elements laid one behind the other into a row that was made. No program in it. -/
import Derived.Test.YtcmhfjpofkgjbaaDoorOwn
import Derived.Maps.AppendAt
import Derived.Laws.CopyRow
import Derived.Laws.Rows
import Derived.Laws.Tables
namespace Go.Proofs.YtcmhfjpofkgjbaaDoor
set_option linter.unusedSimpArgs false
set_option linter.unusedVariables false
set_option maxRecDepth 8000
open Go.RowKit

/-- 'make([]T, n)': the row stands at the head of what is owned. -/
theorem wpList_make_item {P : Program} {ops : Array Oper} {rest : List Oper} {o : Oper} {a : Act} {Q : Exit → Act → World → Prop} {n : Nat} {B : World → Prop} {w : World} {L : List Item}
    (hg : o.guard = none) (l c : Operand) (t : TypeId) (hop : o.op = Op.makeSlice t l c) (e : TypeId) (i : TypeInfo) (z : Value) (size bytes : Nat) (h1 : P.underlying t = some (.slice e)) (h2 : P.info? e = some i) (h3 : i.zero = some z) (h4 : i.size = size) (h5 : i.bytes = bytes)
    (kl kc : IntKind) (x y : Int) (k : Nat) (hl : a.eval l = .int kl x) (hc : a.eval c = .int kc y) (hx : x = (k : Int)) (hy : y = (k : Int)) (b2 : bytes * k ≤ 281474976710656) (b3 : k ≤ maxLen) (hO : Own n B w L)
    (hK : ∀ q w', Own n B w' (.row e size (.slice (some ⟨q, 0, none⟩) k k) k (madeCells z.cells (k * size)).toList :: L) → wpList P ops Q rest (a.put o.dst (.slice (some ⟨q, 0, none⟩) k k)) w') : wpList P ops Q (o :: rest) a w := by
  subst h5
  refine wpList_make_full w hg l c t hop w.heap.size e i z size h1 h2 h3 h4 kl kc x y k hl hc hx hy b2 b3 (Nat.le_refl _) fun w' hr hgr => hK _ w' ?_
  exact hO.addRow ⟨hgr.os, hgr.tape, hgr.output, hgr.size, fun j hj => hgr.block j hj (by simp)⟩ hr

/-- Three cells laid into a row. -/
theorem set3 {α : Type} {a b c a' b' c' : α} {zs : List α} {i : Nat} : ∀ {xs : List α}, xs.length = i → (((xs ++ a :: b :: c :: zs).set i a').set (i + 1) b').set (i + 2) c' = xs ++ [a', b', c'] ++ zs := by
  intro xs h
  subst h
  simp [List.set_append]

section
variable {n : Nat} {B : World → Prop} {w : World} {L : List Item} {e : TypeId} {size q k cap : Nat} {xs : List Value}

/-- A cell of the row at the head, and that it may be written. -/
theorem Own.row_cell (h : Own n B w (.row e size (.slice (some ⟨q, 0, none⟩) k cap) k xs :: L)) {i : Nat} {u : Value} (hu : xs[i]? = some u) : w.cell? ⟨q, i, none⟩ = some u := by
  have := World.ownsRow.cells (h.1.1 : w.ownsRow n e size _ k xs) (g := q) rfl i u hu
  rwa [add_flat] at this
theorem Own.row_free (h : Own n B w (.row e size (.slice (some ⟨q, 0, none⟩) k cap) k xs :: L)) (i : Nat) : w.frozen? ⟨q, i, none⟩ = false := by
  rcases (h.1.1 : w.ownsRow n e size _ k xs).2 with ⟨h2, _⟩ | ⟨g', c', cur, h3, h4, h5, _⟩
  · cases h2
  · cases h3
    simp [World.frozen?, h5]
/-- A cell of it is set. -/
theorem Own.row_set (h : Own n B w (.row e size (.slice (some ⟨q, 0, none⟩) k cap) k xs :: L)) (i : Nat) (u : Value) : Own n B (w.setCell ⟨q, i, none⟩ u) (.row e size (.slice (some ⟨q, 0, none⟩) k cap) k (xs.set i u) :: L) := by
  have hq : n ≤ q := (Item.Holds.lt (x := .row _ _ _ _ _) h.1.1 q rfl).1
  have h1 := Own.set_at (i := i) (u := u) hq h
  have h2 : upd L q i u = L := by
    unfold upd
    have : ∀ x ∈ L, updI q i u x = x := fun x hx => by
      have ha := (h.1.2 x hx).symm.to q rfl
      cases x <;> simp only [updI, Item.at?] at *
      · rename_i b vs
        rw [if_neg (fun e => ha (by rw [e]))]
      · rw [if_neg ha]
    rw [List.map_congr_left this, List.map_id']
  have h3 : upd (.row e size (.slice (some ⟨q, 0, none⟩) k cap) k xs :: L) q i u = .row e size (.slice (some ⟨q, 0, none⟩) k cap) k (xs.set i u) :: upd L q i u := by
    simp [upd, updI, Value.ownBlock]
  rw [h3, h2] at h1
  exact h1
end

theorem Own.row_open {n : Nat} {B : World → Prop} {w : World} {L : List Item} {e : TypeId} {size k : Nat} {v : Value} {xs : List Value} (h : Own n B w (.row e size v k xs :: L)) (hk : 0 < k) : ∃ q cap, v = .slice (some ⟨q, 0, none⟩) k cap ∧ k ≤ cap ∧ cap ≤ maxLen := by
  rcases (h.1.1 : w.ownsRow n e size v k xs).2 with ⟨_, h2⟩ | ⟨q, cap, cur, h3, _, _, h6, h7, _⟩
  · omega
  · exact ⟨q, cap, h3, h6, h7⟩

/- What make lays, whatever the element; cells of a slice at a known place. No program in it. -/
open Go.RowKit

theorem flat_rep {α : Type} (l : List α) (hl : 0 < l.length) : ∀ (n j : Nat), j < n * l.length → ((List.replicate n l).flatten)[j]? = l[j % l.length]?
  | 0, j, h => by simp at h
  | n + 1, j, h => by
    rw [List.replicate_succ, List.flatten_cons]
    by_cases hj : j < l.length
    · rw [List.getElem?_append_left hj, Nat.mod_eq_of_lt hj]
    · rw [List.getElem?_append_right (by omega), flat_rep l hl n (j - l.length) (by rw [Nat.add_mul] at h; omega), ← Nat.mod_eq_sub_mod (by omega)]
theorem made_rep (z : Array Value) (hz : 0 < z.size) (n : Nat) : (madeCells z (n * z.size)).toList = (List.replicate n z.toList).flatten := by
  apply List.ext_getElem?
  intro j
  simp only [madeCells, Array.toList_map, Array.toList_range, List.getElem?_map]
  by_cases hj : j < n * z.size
  · have hm : j % z.size < z.size := Nat.mod_lt _ hz
    rw [List.getElem?_range hj, flat_rep z.toList (by simpa using hz) n j (by simpa using hj)]
    simp [hm]
  · rw [List.getElem?_eq_none (by simp; omega), List.getElem?_eq_none (by simp [List.length_flatten, List.map_replicate, List.sum_replicate_nat]; omega)]
    rfl

/-- A slice opened: its length; and where there is an element, its place. -/
theorem SlAt.open {w : World} {v : Value} {n size : Nat} {xs : List Value} (h : SlAt w v n size xs) : ∃ A cap, v = .slice A n cap ∧ (n : Int) ≤ 9223372036854775807 ∧ (0 < n → ∃ b off, A = some ⟨b, off, none⟩ ∧ n ≤ cap ∧ cap ≤ 9223372036854775807 ∧ b < w.heap.size) := by
  rcases h.2 with ⟨rfl, rfl⟩ | ⟨b, off, cap, rfl, h1, h2, h3, _⟩
  · exact ⟨none, 0, rfl, by omega, fun h => by omega⟩
  · unfold maxLen at h2
    exact ⟨_, cap, rfl, by omega, fun _ => ⟨b, off, rfl, h1, by omega, h3⟩⟩
theorem SlAt.cellAt {w : World} {b off cap n size : Nat} {xs : List Value} (h : SlAt w (.slice (some ⟨b, off, none⟩) n cap) n size xs) {j : Nat} {u : Value} (hj : xs[j]? = some u) : w.cell? ⟨b, off + j, none⟩ = some u := by
  rcases h.2 with ⟨h1, _⟩ | ⟨b', off', cap', h1, _, _, _, h2⟩
  · cases h1
  · cases h1
    exact h2 j u hj

/- A slice that is nil, and make([]T, 0, n), among what a call owns. No program in it. -/
open Go.RowKit

/-- A slice that is nil is a row without elements. -/
theorem Own.nilRow {n : Nat} {B : World → Prop} {w : World} {L : List Item} (e : TypeId) (size : Nat) (h : Own n B w L) : Own n B w (.row e size (.slice none 0 0) 0 [] :: L) :=
  h.addRow (Below.refl _ _) ⟨by simp, .inl ⟨rfl, rfl⟩⟩
/-- 'make([]T, 0, n)': an empty row with room for n stands at the head of what is owned. -/
theorem wpList_make_cap {P : Program} {ops : Array Oper} {rest : List Oper} {o : Oper} {a : Act} {Q : Exit → Act → World → Prop} {n : Nat} {B : World → Prop} {w : World} {L : List Item}
    (hg : o.guard = none) (l c : Operand) (t : TypeId) (hop : o.op = Op.makeSlice t l c) (e : TypeId) (i : TypeInfo) (z : Value) (size bytes : Nat) (h1 : P.underlying t = some (.slice e)) (h2 : P.info? e = some i) (h3 : i.zero = some z) (h4 : i.size = size) (h5 : i.bytes = bytes)
    (kl kc : IntKind) (y : Int) (k : Nat) (hl : a.eval l = .int kl 0) (hc : a.eval c = .int kc y) (hy : y = (k : Int)) (b2 : bytes * k ≤ 281474976710656) (b3 : k ≤ maxLen) (hO : Own n B w L)
    (hK : ∀ q w', Own n B w' (.row e size (.slice (some ⟨q, 0, none⟩) 0 k) 0 [] :: L) → wpList P ops Q rest (a.put o.dst (.slice (some ⟨q, 0, none⟩) 0 k)) w') : wpList P ops Q (o :: rest) a w := by
  subst h5
  refine wpList_make_own w hg l c t hop w.heap.size e i z size h1 h2 h3 h4 kl kc y k hl hc hy b2 b3 (Nat.le_refl _) fun w' hr hgr => hK _ w' ?_
  exact hO.addRow ⟨hgr.os, hgr.tape, hgr.output, hgr.size, fun j hj => hgr.block j hj (by simp)⟩ hr

/- What a call owns, in part; what is owned, at an operation. No program in it. -/
open Go.RowKit

/-- Some of what is owned, in its order. -/
theorem Own.sub {n : Nat} {B : World → Prop} {w : World} : ∀ {L' L : List Item}, L'.Sublist L → Own n B w L → Own n B w L'
  | _, _, .slnil, h => h
  | _, _, .cons _ s, h => Own.sub s h.2
  | _, _, .cons_cons _ s, h => ⟨⟨h.1.1, fun x hx => h.1.2 x (s.subset hx)⟩, Own.sub s h.2⟩
theorem Own.cast {n : Nat} {B : World → Prop} {w : World} {L L' : List Item} (h : Own n B w L) (e : L = L') : Own n B w L' := e ▸ h
theorem own_list {P : Program} {ops : Array Oper} {rest : List Oper} {Q : Exit → Act → World → Prop} {a : Act} {n : Nat} {B : World → Prop} {W : World} {L L0 : List Item} {W0 : World}
    (_ : Own n B W0 L0) (hO : Own n B W L) (k : Own n B W L → wpList P ops Q rest a W) : wpList P ops Q rest a W := k hO

/-- A call that hands back a slice of its own and a flag. -/
def RowOutB (e : TypeId) (size k : Nat) (xs : List Value) (b : Bool) (w : World) (e' : Ending) (w' : World) : Prop := ∃ v, e' = .returned (.tuple #[v, .bool b]) ∧ w'.ownsRow w.heap.size e size v k xs ∧ Below w.heap.size w w'
theorem RowOutB.mk {e : TypeId} {size k : Nat} {xs : List Value} {b : Bool} {w w' : World} {v : Value} {L : List Item} (hO : Own w.heap.size (Below w.heap.size w) w' (.row e size v k xs :: L)) : RowOutB e size k xs b w (.returned (.tuple #[v, .bool b])) w' := ⟨v, rfl, hO.1.1, hO.base⟩
theorem own_call_rowB {P : Program} {f : FuncId} {args : Array Value} {n : Nat} {B : World → Prop} {W : World} {L : List Item} {e : TypeId} {size k : Nat} {xs : List Value} {b : Bool} {K : Ending → World → Prop}
    (hO : Own n B W L) (h : B W → Calls P f args W (RowOutB e size k xs b W)) (k' : ∀ v w1, Own n B w1 (.row e size v k xs :: L) → K (.returned (.tuple #[v, .bool b])) w1) : Calls P f args W K :=
  (h hO.base).mono fun e' w' ⟨v, he, hr, hb⟩ => by subst he; exact k' v w' (hO.addRow hb hr)

/- append(s, v...) among what a call owns. No program in it. -/
open Go.RowKit

theorem add_any (b off j : Nat) : (⟨b, off, none⟩ : Addr).add j = ⟨b, off + j, none⟩ := by unfold Addr.add; split <;> simp_all

/-- 'out = append(out, v...)': the elements lie somewhere in memory. -/
theorem wpList_append_slice {P : Program} {ops : Array Oper} {rest : List Oper} {o : Oper} {a : Act} {Q : Exit → Act → World → Prop} {n : Nat} {B : World → Prop} {w : World} {L : List Item} {v xv : Value} {k m : Nat} {xs news : List Value}
    (hgd : o.guard = none) (s x : Operand) (t : TypeId) (ho : o.op = .call { callee := .builtin .append, args := #[s, x], argTypes := #[t, t] })
    (e : TypeId) (i : TypeInfo) (z : Value) (size bytes : Nat) (ht : P.underlying t = some (.slice e)) (hi : P.info? e = some i) (hz : i.zero = some z)
    (hsize : i.size = size) (hby : i.bytes = bytes) (hzs : z.cells.size = size) (hsz : 0 < size)
    (hs : a.eval s = v) (hx : a.eval x = xv) (hO : Own n B w (.row e size v k xs :: L)) (hv : SlAt w xv m size news) (h1 : ∀ u ∈ news, u.oneCell' = true)
    (h63 : k + m ≤ maxLen) (hbytes : (k + m) * bytes ≤ 140737488355328)
    (h : ∀ v' w', Own n B w' (.row e size v' (k + m) (xs ++ news) :: L) → wpList P ops Q rest (a.put o.dst v') w') : wpList P ops Q (o :: rest) a w := by
  refine wpList_plain hgd fun K hK => ?_
  have hown : w.ownsRow n e size v k xs := hO.1.1
  rcases hv.2 with ⟨rfl, rfl⟩ | ⟨b, off, c, rfl, _, _, _, hc⟩
  · have hr := run_append_owned_none (P := P) (w := w) n t o.type e i size ht hi v k xs hown
    have hn : news = [] := List.eq_nil_of_length_eq_zero (by simpa using hv.1)
    subst hn
    unfold Oper.wp execOp
    simp only [ho, resolve, invoke, builtin, Sem.run_bind, Sem.run_pure, Result.andThen_ok, List.map_toArray, List.map_cons, List.map_nil, hs, hx, hr]
    exact hK _ _ (h v w (by simpa using hO))
  · obtain ⟨v', w', hr, h2, h3, h4, h5⟩ := run_append_own_at (P := P) w n t o.type e i z size bytes ht hi hz hsize hby hzs hsz v k xs hown ⟨b, off, none⟩ m c news hv.1 (fun j u hj => by rw [add_any]; exact hc j u hj) h1 h63 hbytes hO.low
    unfold Oper.wp execOp
    simp only [ho, resolve, invoke, builtin, Sem.run_bind, Sem.run_pure, Result.andThen_ok, List.map_toArray, List.map_cons, List.map_nil, hs, hx, hr]
    exact hK _ _ (h v' w' (hO.regrown h3 h2 h5))

/- make([]T, k, m) and copy(out, v) among what a call owns. No program in it. -/
open Go.RowKit

/-- 'make([]T, k, m)': a row of k elements with room for m stands at the head of what is owned. -/
theorem wpList_make_room {P : Program} {ops : Array Oper} {rest : List Oper} {o : Oper} {a : Act} {Q : Exit → Act → World → Prop} {n : Nat} {B : World → Prop} {w : World} {L : List Item}
    (hg : o.guard = none) (l c : Operand) (t : TypeId) (hop : o.op = Op.makeSlice t l c) (e : TypeId) (i : TypeInfo) (z : Value) (size bytes : Nat) (h1 : P.underlying t = some (.slice e)) (h2 : P.info? e = some i) (h3 : i.zero = some z) (h4 : i.size = size) (h5 : i.bytes = bytes)
    (kl kc : IntKind) (x y : Int) (k m : Nat) (hl : a.eval l = .int kl x) (hc : a.eval c = .int kc y) (hx : x = (k : Int)) (hy : y = (m : Int)) (hkm : k ≤ m) (b2 : bytes * m ≤ 281474976710656) (b3 : m ≤ maxLen) (hO : Own n B w L)
    (hK : ∀ (xs : List Value) q w', xs.length = k * size → Own n B w' (.row e size (.slice (some ⟨q, 0, none⟩) k m) k xs :: L) → wpList P ops Q rest (a.put o.dst (.slice (some ⟨q, 0, none⟩) k m)) w') : wpList P ops Q (o :: rest) a w := by
  subst h5
  subst h4
  refine wpList_plain hg fun K hK' => ?_
  have h63' : (m : Int) ≤ 9223372036854775807 := by
    have h := b3
    simp [maxLen] at h
    omega
  have hb' : (i.bytes : Int) * (m : Int) ≤ 281474976710656 := by
    have h : ((i.bytes * m : Nat) : Int) ≤ 281474976710656 := by omega
    rwa [Int.natCast_mul] at h
  have hr := run_make (P := P) w t e i z h1 h2 h3 kl kc k m (by omega) (by omega) hb' h63'
  simp only [Int.toNat_natCast] at hr
  subst hx
  subst hy
  unfold Oper.wp
  simp only [execOp, hop, hl, hc]
  simp [hr, Result.andThen]
  refine hK' _ _ (hK _ _ _ ?_ (hO.allocRow (cur := madeCells z.cells (m * i.size)) i.size hkm b3 (size_madeCells _ _)))
  rw [List.length_take, Array.length_toList, size_madeCells]
  exact Nat.min_eq_left (Nat.mul_le_mul_right _ hkm)

/-- copy of as many elements as the row has. -/
theorem run_copy_elems {P : Program} (w : World) (dT sT ty elem : TypeId) (i : TypeInfo) (g k dCap : Nat) (a : Addr) (sCap : Nat) (cur : Array Value) (t : TypeId) (cs : List Value)
    (hu : P.underlying dT = some (.slice elem)) (hi : P.info? elem = some i) (hg : w.heap[g]? = some (.cells cur t (0, 0))) (hn : cs.length = k * i.size)
    (hsrc : ∀ j v, cs[j]? = some v → w.cell? (a.add j) = some v) (hfit : cs.length ≤ cur.size) (h1 : ∀ v ∈ cs, v.oneCell' = true) :
    (Builtin.copy_ #[dT, sT] ty #[.slice (some ⟨g, 0, none⟩) k dCap, .slice (some a) k sCap]).run P w = .ok (goInt k) (w.setRow g (cs ++ cur.toList.drop cs.length).toArray) := by
  have hl := run_loadCells_list (P := P) w a cs hsrc
  have hst := run_storeCells_at P g 0 t cs 0 cur w hg (by simpa using hfit) h1
  have hm : Nat.min k k = k := Nat.min_self k
  simp [Builtin.copy_, run_underlying hu, Builtin.lenOf, Builtin.firstCells, sizeOf, typeInfo, hi, hm, ← hn, hl, hst]

/-- 'copy(out, v)', out the row at the head, v as long. -/
theorem wpList_copy_elems {P : Program} {ops : Array Oper} {rest : List Oper} {o : Oper} {a : Act} {Q : Exit → Act → World → Prop} {n : Nat} {B : World → Prop} {w : World} {L : List Item} {xv : Value} {q k m : Nat} {xs news : List Value}
    (hgd : o.guard = none) (d s : Operand) (dT sT : TypeId) (ho : o.op = .call { callee := .builtin .copy, args := #[d, s], argTypes := #[dT, sT] })
    (e : TypeId) (i : TypeInfo) (size : Nat) (ht : P.underlying dT = some (.slice e)) (hi : P.info? e = some i) (hsize : i.size = size)
    (hd : a.eval d = .slice (some ⟨q, 0, none⟩) k m) (hs : a.eval s = xv) (hO : Own n B w (.row e size (.slice (some ⟨q, 0, none⟩) k m) k xs :: L)) (hv : SlAt w xv k size news) (h1 : ∀ u ∈ news, u.oneCell' = true)
    (h : ∀ w', Own n B w' (.row e size (.slice (some ⟨q, 0, none⟩) k m) k news :: L) → wpList P ops Q rest (a.put o.dst (goInt k)) w') : wpList P ops Q (o :: rest) a w := by
  subst hsize
  refine wpList_plain hgd fun K hK => ?_
  have hown : w.ownsRow n e i.size (.slice (some ⟨q, 0, none⟩) k m) k xs := hO.1.1
  rcases hv.2 with ⟨rfl, rfl⟩ | ⟨b, off, c, rfl, _, _, _, hc⟩
  · have hr := run_copy_nil P w dT sT o.type e ⟨q, 0, none⟩ 0 m ht (by simp [hi])
    have e1 : xs = [] := List.eq_nil_of_length_eq_zero (by simpa using hown.1)
    have e2 : news = [] := List.eq_nil_of_length_eq_zero (by simpa using hv.1)
    subst e1
    subst e2
    unfold Oper.wp execOp
    simp only [ho, resolve, invoke, builtin, Sem.run_bind, Sem.run_pure, Result.andThen_ok, List.map_toArray, List.map_cons, List.map_nil, hd, hs, hr]
    exact hK _ _ (h w hO)
  · rcases hown.2 with ⟨h0, _⟩ | ⟨g, cap, cur, h0, hbg, hg, hkc, hcm, hcs, htk⟩
    · cases h0
    cases h0
    have hfit : news.length ≤ cur.size := by rw [hv.1, hcs]; exact Nat.mul_le_mul_right _ hkc
    have hr := run_copy_elems (P := P) w dT sT o.type e i q k m ⟨b, off, none⟩ c cur e news ht hi hg hv.1 (fun j u hj => by rw [add_any]; exact hc j u hj) hfit h1
    have hh := setRow_heap w q cur (news ++ cur.toList.drop news.length).toArray e _ hg
    unfold Oper.wp execOp
    simp only [ho, resolve, invoke, builtin, Sem.run_bind, Sem.run_pure, Result.andThen_ok, List.map_toArray, List.map_cons, List.map_nil, hd, hs, hr]
    refine hK _ _ (h _ (hO.regrown ⟨rfl, rfl, rfl, by simp [World.setRow], fun j hj hne => setRow_other w q j _ (fun e => hne (by rw [e]; rfl))⟩ ⟨hv.1, .inr ⟨q, m, _, rfl, hbg, hh, hkc, hcm, ?_, ?_⟩⟩ (.inl rfl)))
    · simp
      omega
    · simp only
      rw [← hv.1, List.take_left]

/- Calls that write a block that the caller owns (a method by its pointer), with an open list behind it. No program in it. -/
open Go.RowKit

/-- what such a call leaves: a value and what is owned. -/
def OwnOut (n : Nat) (B : World → Prop) (R : Value → List Item → Prop) (e : Ending) (w' : World) : Prop := ∃ v L', e = .returned v ∧ R v L' ∧ Own n B w' L'
theorem own_callE {P : Program} {f : FuncId} {args : Array Value} {n : Nat} {B : World → Prop} {W : World} {L : List Item} {R : Value → List Item → Prop} {K : Ending → World → Prop}
    (hO : Own n B W L) (h : Own n B W L → Calls P f args W (OwnOut n B R)) (k : ∀ v L' w1, R v L' → Own n B w1 L' → K (.returned v) w1) : Calls P f args W K :=
  (h hO).mono fun e w' ⟨v, L', he, hr, ho⟩ => by subst he; exact k v L' w' hr ho
theorem updI_other {b i : Nat} {u : Value} {x : Item} (h : x.at? ≠ some b) : updI b i u x = x := by
  cases x with
  | blk q vs =>
    have hq : ¬ q = b := fun e => h (by rw [← e]; rfl)
    simp only [updI]; rw [if_neg hq]
  | row e size v k xs =>
    have hq : ¬ v.ownBlock = some b := fun e => h e
    simp only [updI]; rw [if_neg hq]
theorem upd_none {b : Nat} {L : List Item} (h : ∀ x ∈ L, x.at? ≠ some b) : ∀ i u, List.map (updI b i u) L = L := fun i u => by
  have : ∀ x ∈ L, updI b i u x = x := fun x hx => updI_other (h x hx)
  rw [List.map_congr_left this, List.map_id']
/-- a store into the block at the head leaves the tail. -/
theorem upd_tail {n b : Nat} {B : World → Prop} {w : World} {vs : List Value} {L : List Item} (h : Own n B w (.blk b vs :: L)) : ∀ i u, List.map (updI b i u) L = L :=
  upd_none fun x hx e => (h.1.2 x hx).to b e rfl
/-- a store into a block made later, too. -/
theorem upd_fresh {n b : Nat} {B : World → Prop} {w : World} {L : List Item} (h : Own n B w L) (hb : w.heap.size ≤ b) : ∀ i u, List.map (updI b i u) L = L :=
  upd_none fun x hx e => by have := (h.lt x hx b e).2; omega

/- Arrays by value in memory: a block that holds a whole array, laid, written and read as one. No program in it. -/
open Go.RowKit

/-- The block q holds a whole array of k elements, size cells each. -/
abbrev arrI (e : TypeId) (size q k : Nat) (xs : List Value) : Item := .row e size (.slice (some ⟨q, 0, none⟩) k k) k xs

section
variable {n : Nat} {B : World → Prop} {w : World} {L : List Item} {e : TypeId} {size q k : Nat} {xs : List Value}
theorem Own.allocArr {cs : Array Value} (h : Own n B w L) (hm : k ≤ maxLen) (hs : cs.size = k * size) : Own n B (w.alloc (.cells cs e)) (arrI e size w.heap.size k cs.toList :: L) := by
  have := h.allocRow (e := e) (cur := cs) (k := k) (cap := k) size (Nat.le_refl _) hm hs
  rwa [List.take_of_length_le (by simp [hs])] at this
theorem Own.arr_heap (h : Own n B w L) (hm : arrI e size q k xs ∈ L) : w.heap[q]? = some (.cells xs.toArray e (0, 0)) ∧ xs.length = k * size ∧ n ≤ q := by
  obtain ⟨h1, h2⟩ := (h.holds _ hm : w.ownsRow n e size _ k xs)
  rcases h2 with ⟨h2, _⟩ | ⟨g, cap, cur, h3, h4, h5, _, _, h6, h7⟩
  · cases h2
  · cases h3
    refine ⟨?_, h1, h4⟩
    rw [h5]
    rw [List.take_of_length_le (by simp [h6])] at h7
    subst h7
    rfl
theorem Own.arr_row {ys : List Value} (h : Own n B w (arrI e size q k xs :: L)) (hl : ys.length = k * size) : Own n B (w.setRow q ys.toArray) (arrI e size q k ys :: L) := by
  obtain ⟨h1, h2, h3⟩ := h.arr_heap List.mem_cons_self
  have hlt : q < w.heap.size := (Array.getElem?_eq_some_iff.1 h1).1
  have hm : k ≤ maxLen := by
    rcases (h.1.1 : w.ownsRow n e size _ k xs).2 with ⟨h2, _⟩ | ⟨g, cap, cur, h4, _, _, _, h5, _⟩
    · cases h2
    · cases h4; exact h5
  refine Own.regrown (v := .slice (some ⟨q, 0, none⟩) k k) h ⟨rfl, rfl, rfl, ?_, fun j hj hr => ?_⟩ ⟨hl, .inr ⟨q, k, ys.toArray, rfl, h3, setRow_heap w q _ _ e _ h1, Nat.le_refl _, hm, by simpa using hl, by simp [← hl]⟩⟩ (Or.inl rfl)
  · simp [World.setRow]
  · have hne : q ≠ j := fun e => hr (by subst e; rfl)
    simp [World.setRow, Array.getElem?_modify, hne]
end

/-- A variable of an array's type is laid: its zero. -/
theorem wpList_alloc_arr {P : Program} {ops : Array Oper} {rest : List Oper} {o : Oper} {a : Act} {Q : Exit → Act → World → Prop} {n : Nat} {B : World → Prop} {w : World} {L : List Item} {cs : List Value} {size k : Nat}
    (hg : o.guard = none) (e : TypeId) (hop : o.op = .alloc e) (i : TypeInfo) (hi : P.info? e = some i) (hz : i.zero = some (.agg cs.toArray)) (hk : cs.length = k * size) (hm : k ≤ maxLen) (hO : Own n B w L)
    (hK : ∀ q w', Own n B w' (arrI e size q k cs :: L) → wpList P ops Q rest (a.put o.dst (.pointer (some ⟨q, 0, none⟩))) w') : wpList P ops Q (o :: rest) a w := by
  refine wpList_plain hg fun K hK' => ?_
  have hO2 := hO.allocArr (e := e) (k := k) (size := size) (cs := cs.toArray) hm (by simpa using hk)
  unfold Oper.wp
  simp [execOp, hop, Instr.alloc, zeroValue, typeInfo, hi, hz, newVar, newRow, Value.cells, Result.andThen, go_sem]
  exact hK' _ _ (hK _ _ (by simpa using hO2))
/-- A whole array is stored. -/
theorem wpList_store_arr {P : Program} {ops : Array Oper} {rest : List Oper} {o : Oper} {a : Act} {Q : Exit → Act → World → Prop} {n : Nat} {B : World → Prop} {w : World} {L : List Item} {e : TypeId} {size q k : Nat} {xs ys : List Value}
    (hg : o.guard = none) (ty : TypeId) (x y : Operand) (hop : o.op = .store ty x y) (hx : a.eval x = .pointer (some ⟨q, 0, none⟩)) (hy : a.eval y = .agg ys.toArray) (hO : Own n B w (arrI e size q k xs :: L))
    (hi : (P.info? ty).map (·.size) = some ys.length) (hl : ys.length = k * size) (h1 : ys.all (·.oneCell') = true)
    (hK : ∀ w', Own n B w' (arrI e size q k ys :: L) → wpList P ops Q rest (a.put o.dst undef) w') : wpList P ops Q (o :: rest) a w := by
  obtain ⟨g1, g2, _⟩ := hO.arr_heap List.mem_cons_self
  exact wpList_store_row hg ty x y hop q ys.toArray hx hy e xs.toArray g1 (by simpa using hi) (by simp [g2, hl]) (by simpa using h1) (hK _ (hO.arr_row hl))
/-- A whole array is loaded. -/
theorem wpList_load_arr {P : Program} {ops : Array Oper} {rest : List Oper} {o : Oper} {a : Act} {Q : Exit → Act → World → Prop} {n : Nat} {B : World → Prop} {w : World} {L : List Item} {e : TypeId} {size q k : Nat} {xs : List Value}
    (hg : o.guard = none) (ty : TypeId) (x : Operand) (hop : o.op = .load ty x) (hx : a.eval x = .pointer (some ⟨q, 0, none⟩)) (hO : Own n B w L) (hm : arrI e size q k xs ∈ L)
    (d : TypeDesc) (hu : P.underlying ty = some d) (hd : (match d with | .struct _ | .array _ _ => true | _ => false) = true) (hi : (P.info? ty).map (·.size) = some xs.length)
    (hK : wpList P ops Q rest (a.put o.dst (.agg xs.toArray)) w) : wpList P ops Q (o :: rest) a w := by
  obtain ⟨g1, _, _⟩ := hO.arr_heap hm
  exact wpList_load_row hg ty x hop q hx e xs.toArray (0, 0) d g1 hu hd (by simpa using hi) hK
/-- A whole array by a literal without parts: its zero. -/
theorem wpList_build_arr {P : Program} {ops : Array Oper} {rest : List Oper} {o : Oper} {a : Act} {Q : Exit → Act → World → Prop} {w : World} {cs : List Value}
    (hg : o.guard = none) (ty : TypeId) (hop : o.op = .build ty #[]) (hb : P.built ty [] = some cs.toArray)
    (hK : wpList P ops Q rest (a.put o.dst (.agg cs.toArray)) w) : wpList P ops Q (o :: rest) a w :=
  wpList_build hg ty #[] hop (by simp [hb]) (by simpa [hb] using hK)
/-- One of a whole array's elements, each of several cells. -/
theorem run_index_arr {P : Program} (t el : TypeId) (n s : Nat) (cs : List Value) (c : Nat) (d : TypeDesc) (i : TypeInfo) (hu : P.underlying t = some (.array n el)) (hc : c < n) (hd : P.underlying el = some d)
    (hag : (match d with | .struct _ | .array _ _ => true | _ => false) = true) (hi : P.info? el = some i) (hs : i.size = s) (w : World) :
    (Instr.index t (.agg cs.toArray) (.int .i64 c)).run P w = .ok (.agg ((cs.drop (c * s)).take s).toArray) w := by
  have hin : 0 ≤ (c : Int) ∧ (c : Int) < (n : Int) := by omega
  have hagg : (isAgg el).run P w = .ok true w := by
    unfold isAgg
    rw [Sem.run_bind, run_underlying hd w]
    cases d <;> simp_all
  subst hs
  simp [Instr.index, run_underlying hu, asIntOf, hc, part, Sem.run_bind, hagg, sizeOf, typeInfo, hi, Result.andThen, go_sem]
/-- What a function hands back: a whole array of its own, and a flag. -/
theorem results_arr {P : Program} {fn : Func} {p r : Tmp} {ty : TypeId} (h : fn.results = #[.cell p ty, .tmp r]) (tmps : Array Value) {n : Nat} {B : World → Prop} {w : World} {L : List Item} {e : TypeId} {size q k : Nat} {xs : List Value} {v : Value}
    (hp : tmps.getD p undef = .pointer (some ⟨q, 0, none⟩)) (hr : tmps.getD r undef = v) (hO : Own n B w L) (hm : arrI e size q k xs ∈ L)
    (d : TypeDesc) (hu : P.underlying ty = some d) (hd : (match d with | .struct _ | .array _ _ => true | _ => false) = true) (hi : (P.info? ty).map (·.size) = some xs.length) :
    (results fn tmps).run P w = .ok (.tuple #[.agg xs.toArray, v]) w := by
  obtain ⟨g1, _, _⟩ := hO.arr_heap hm
  have hp' : tmps[p]?.getD undef = .pointer (some ⟨q, 0, none⟩) := by simpa using hp
  have hr' : tmps[r]?.getD undef = v := by simpa using hr
  simp [results, h, hp', hr', asAddr, run_loadVar_row w q e ty xs.toArray (0, 0) d g1 hu hd (by simpa using hi)]
end Go.Proofs.YtcmhfjpofkgjbaaDoor
