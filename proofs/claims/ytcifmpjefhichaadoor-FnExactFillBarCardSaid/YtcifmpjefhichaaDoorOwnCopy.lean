/- make([]T, k, m) and copy(out, v) among what a call owns. No program in it. -/
import Derived.Test.YtcifmpjefhichaaDoorOwnApp
import Derived.Laws.CopyRow
namespace Go.Proofs.YtcifmpjefhichaaDoor
set_option linter.unusedSimpArgs false
set_option linter.unusedVariables false
open Go.RowKit

/-- 'make([]T, k, m)': a row of k elements with room for m stands at the head of what is owned. -/
theorem wpList_make_room {P : Program} {ops : Array Oper} {rest : List Oper} {o : Oper} {a : Act} {Q : Exit → Act → World → Prop} {n : Nat} {B : World → Prop} {w : World} {L : List Item}
    (hg : o.guard = none) (l c : Operand) (t : TypeId) (hop : o.op = Op.makeSlice t l c) (e : TypeId) (i : TypeInfo) (z : Value) (size bytes : Nat) (h1 : P.underlying t = some (.slice e)) (h2 : P.info? e = some i) (h3 : i.zero = some z) (h4 : i.size = size) (h5 : i.bytes = bytes)
    (kl kc : IntKind) (x y : Int) (k m : Nat) (hl : a.eval l = .int kl x) (hc : a.eval c = .int kc y) (hx : x = (k : Int)) (hy : y = (m : Int)) (hkm : k ≤ m) (b2 : bytes * m ≤ 281474976710656) (b3 : m ≤ maxLen) (hO : Own n B w L)
    (hK : ∀ (xs : List Value) q w', xs.length = k * size → Own n B w' (.row e size (.slice (some ⟨q, 0, none⟩) k m) k xs :: L) → wpList P ops Q rest (a.put o.dst (.slice (some ⟨q, 0, none⟩) k m)) w') : wpList P ops Q (o :: rest) a w := by
  subst h5
  subst h4
  refine wpList_plain hg fun K hK' => ?_
  have h63' : (m : Int) ≤ 9223372036854775807 := by
    have h := b3
    simp [maxLen] at h
    omega
  have hb' : (i.bytes : Int) * (m : Int) ≤ 281474976710656 := by
    have h : ((i.bytes * m : Nat) : Int) ≤ 281474976710656 := by omega
    rwa [Int.natCast_mul] at h
  have hr := run_make (P := P) w t e i z h1 h2 h3 kl kc k m (by omega) (by omega) hb' h63'
  simp only [Int.toNat_natCast] at hr
  subst hx
  subst hy
  unfold Oper.wp
  simp only [execOp, hop, hl, hc]
  simp [hr, Result.andThen]
  refine hK' _ _ (hK _ _ _ ?_ (hO.allocRow (cur := madeCells z.cells (m * i.size)) i.size hkm b3 (size_madeCells _ _)))
  rw [List.length_take, Array.length_toList, size_madeCells]
  exact Nat.min_eq_left (Nat.mul_le_mul_right _ hkm)

/-- copy of as many elements as the row has. -/
theorem run_copy_elems {P : Program} (w : World) (dT sT ty elem : TypeId) (i : TypeInfo) (g k dCap : Nat) (a : Addr) (sCap : Nat) (cur : Array Value) (t : TypeId) (cs : List Value)
    (hu : P.underlying dT = some (.slice elem)) (hi : P.info? elem = some i) (hg : w.heap[g]? = some (.cells cur t (0, 0))) (hn : cs.length = k * i.size)
    (hsrc : ∀ j v, cs[j]? = some v → w.cell? (a.add j) = some v) (hfit : cs.length ≤ cur.size) (h1 : ∀ v ∈ cs, v.oneCell' = true) :
    (Builtin.copy_ #[dT, sT] ty #[.slice (some ⟨g, 0, none⟩) k dCap, .slice (some a) k sCap]).run P w = .ok (goInt k) (w.setRow g (cs ++ cur.toList.drop cs.length).toArray) := by
  have hl := run_loadCells_list (P := P) w a cs hsrc
  have hst := run_storeCells_at P g 0 t cs 0 cur w hg (by simpa using hfit) h1
  have hm : Nat.min k k = k := Nat.min_self k
  simp [Builtin.copy_, run_underlying hu, Builtin.lenOf, Builtin.firstCells, sizeOf, typeInfo, hi, hm, ← hn, hl, hst]

/-- 'copy(out, v)', out the row at the head, v as long. -/
theorem wpList_copy_elems {P : Program} {ops : Array Oper} {rest : List Oper} {o : Oper} {a : Act} {Q : Exit → Act → World → Prop} {n : Nat} {B : World → Prop} {w : World} {L : List Item} {xv : Value} {q k m : Nat} {xs news : List Value}
    (hgd : o.guard = none) (d s : Operand) (dT sT : TypeId) (ho : o.op = .call { callee := .builtin .copy, args := #[d, s], argTypes := #[dT, sT] })
    (e : TypeId) (i : TypeInfo) (size : Nat) (ht : P.underlying dT = some (.slice e)) (hi : P.info? e = some i) (hsize : i.size = size)
    (hd : a.eval d = .slice (some ⟨q, 0, none⟩) k m) (hs : a.eval s = xv) (hO : Own n B w (.row e size (.slice (some ⟨q, 0, none⟩) k m) k xs :: L)) (hv : SlAt w xv k size news) (h1 : ∀ u ∈ news, u.oneCell' = true)
    (h : ∀ w', Own n B w' (.row e size (.slice (some ⟨q, 0, none⟩) k m) k news :: L) → wpList P ops Q rest (a.put o.dst (goInt k)) w') : wpList P ops Q (o :: rest) a w := by
  subst hsize
  refine wpList_plain hgd fun K hK => ?_
  have hown : w.ownsRow n e i.size (.slice (some ⟨q, 0, none⟩) k m) k xs := hO.1.1
  rcases hv.2 with ⟨rfl, rfl⟩ | ⟨b, off, c, rfl, _, _, _, hc⟩
  · have hr := run_copy_nil P w dT sT o.type e ⟨q, 0, none⟩ 0 m ht (by simp [hi])
    have e1 : xs = [] := List.eq_nil_of_length_eq_zero (by simpa using hown.1)
    have e2 : news = [] := List.eq_nil_of_length_eq_zero (by simpa using hv.1)
    subst e1
    subst e2
    unfold Oper.wp execOp
    simp only [ho, resolve, invoke, builtin, Sem.run_bind, Sem.run_pure, Result.andThen_ok, List.map_toArray, List.map_cons, List.map_nil, hd, hs, hr]
    exact hK _ _ (h w hO)
  · rcases hown.2 with ⟨h0, _⟩ | ⟨g, cap, cur, h0, hbg, hg, hkc, hcm, hcs, htk⟩
    · cases h0
    cases h0
    have hfit : news.length ≤ cur.size := by rw [hv.1, hcs]; exact Nat.mul_le_mul_right _ hkc
    have hr := run_copy_elems (P := P) w dT sT o.type e i q k m ⟨b, off, none⟩ c cur e news ht hi hg hv.1 (fun j u hj => by rw [add_any]; exact hc j u hj) hfit h1
    have hh := setRow_heap w q cur (news ++ cur.toList.drop news.length).toArray e _ hg
    unfold Oper.wp execOp
    simp only [ho, resolve, invoke, builtin, Sem.run_bind, Sem.run_pure, Result.andThen_ok, List.map_toArray, List.map_cons, List.map_nil, hd, hs, hr]
    refine hK _ _ (h _ (hO.regrown ⟨rfl, rfl, rfl, by simp [World.setRow], fun j hj hne => setRow_other w q j _ (fun e => hne (by rw [e]; rfl))⟩ ⟨hv.1, .inr ⟨q, m, _, rfl, hbg, hh, hkc, hcm, ?_, ?_⟩⟩ (.inl rfl)))
    · simp
      omega
    · simp only
      rw [← hv.1, List.take_left]
end Go.Proofs.YtcifmpjefhichaaDoor
