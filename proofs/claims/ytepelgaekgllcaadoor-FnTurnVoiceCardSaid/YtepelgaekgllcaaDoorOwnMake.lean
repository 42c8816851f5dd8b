/- make([]T, n) among what a call owns; elements laid one behind the other into a row that was made. No program in it. -/
import Derived.Test.YtepelgaekgllcaaDoorOwnRows
namespace Go.Proofs.YtepelgaekgllcaaDoor
set_option linter.unusedSimpArgs false
set_option linter.unusedVariables false
open Go.RowKit

/-- 'make([]T, n)': the row stands at the head of what is owned. -/
theorem wpList_make_item {P : Program} {ops : Array Oper} {rest : List Oper} {o : Oper} {a : Act} {Q : Exit → Act → World → Prop} {n : Nat} {B : World → Prop} {w : World} {L : List Item}
    (hg : o.guard = none) (l c : Operand) (t : TypeId) (hop : o.op = Op.makeSlice t l c) (e : TypeId) (i : TypeInfo) (z : Value) (size bytes : Nat) (h1 : P.underlying t = some (.slice e)) (h2 : P.info? e = some i) (h3 : i.zero = some z) (h4 : i.size = size) (h5 : i.bytes = bytes)
    (kl kc : IntKind) (x y : Int) (k : Nat) (hl : a.eval l = .int kl x) (hc : a.eval c = .int kc y) (hx : x = (k : Int)) (hy : y = (k : Int)) (b2 : bytes * k ≤ 281474976710656) (b3 : k ≤ maxLen) (hO : Own n B w L)
    (hK : ∀ q w', Own n B w' (.row e size (.slice (some ⟨q, 0, none⟩) k k) k (madeCells z.cells (k * size)).toList :: L) → wpList P ops Q rest (a.put o.dst (.slice (some ⟨q, 0, none⟩) k k)) w') : wpList P ops Q (o :: rest) a w := by
  subst h5
  refine wpList_make_full w hg l c t hop w.heap.size e i z size h1 h2 h3 h4 kl kc x y k hl hc hx hy b2 b3 (Nat.le_refl _) fun w' hr hgr => hK _ w' ?_
  exact hO.addRow ⟨hgr.os, hgr.tape, hgr.output, hgr.size, fun j hj => hgr.block j hj (by simp)⟩ hr

/-- Three cells laid into a row. -/
theorem set3 {α : Type} {a b c a' b' c' : α} {zs : List α} {i : Nat} : ∀ {xs : List α}, xs.length = i → (((xs ++ a :: b :: c :: zs).set i a').set (i + 1) b').set (i + 2) c' = xs ++ [a', b', c'] ++ zs := by
  intro xs h
  subst h
  simp [List.set_append]

section
variable {n : Nat} {B : World → Prop} {w : World} {L : List Item} {e : TypeId} {size q k cap : Nat} {xs : List Value}

/-- A cell of the row at the head, and that it may be written. -/
theorem Own.row_cell (h : Own n B w (.row e size (.slice (some ⟨q, 0, none⟩) k cap) k xs :: L)) {i : Nat} {u : Value} (hu : xs[i]? = some u) : w.cell? ⟨q, i, none⟩ = some u := by
  have := World.ownsRow.cells (h.1.1 : w.ownsRow n e size _ k xs) (g := q) rfl i u hu
  rwa [add_flat] at this
theorem Own.row_free (h : Own n B w (.row e size (.slice (some ⟨q, 0, none⟩) k cap) k xs :: L)) (i : Nat) : w.frozen? ⟨q, i, none⟩ = false := by
  rcases (h.1.1 : w.ownsRow n e size _ k xs).2 with ⟨h2, _⟩ | ⟨g', c', cur, h3, h4, h5, _⟩
  · cases h2
  · cases h3
    simp [World.frozen?, h5]
/-- A cell of it is set. -/
theorem Own.row_set (h : Own n B w (.row e size (.slice (some ⟨q, 0, none⟩) k cap) k xs :: L)) (i : Nat) (u : Value) : Own n B (w.setCell ⟨q, i, none⟩ u) (.row e size (.slice (some ⟨q, 0, none⟩) k cap) k (xs.set i u) :: L) := by
  have hq : n ≤ q := (Item.Holds.lt (x := .row _ _ _ _ _) h.1.1 q rfl).1
  have h1 := Own.set_at (i := i) (u := u) hq h
  have h2 : upd L q i u = L := by
    unfold upd
    have : ∀ x ∈ L, updI q i u x = x := fun x hx => by
      have ha := (h.1.2 x hx).symm.to q rfl
      cases x <;> simp only [updI, Item.at?] at *
      · rename_i b vs
        rw [if_neg (fun e => ha (by rw [e]))]
      · rw [if_neg ha]
    rw [List.map_congr_left this, List.map_id']
  have h3 : upd (.row e size (.slice (some ⟨q, 0, none⟩) k cap) k xs :: L) q i u = .row e size (.slice (some ⟨q, 0, none⟩) k cap) k (xs.set i u) :: upd L q i u := by
    simp [upd, updI, Value.ownBlock]
  rw [h3, h2] at h1
  exact h1
end

theorem Own.row_open {n : Nat} {B : World → Prop} {w : World} {L : List Item} {e : TypeId} {size k : Nat} {v : Value} {xs : List Value} (h : Own n B w (.row e size v k xs :: L)) (hk : 0 < k) : ∃ q cap, v = .slice (some ⟨q, 0, none⟩) k cap ∧ k ≤ cap ∧ cap ≤ maxLen := by
  rcases (h.1.1 : w.ownsRow n e size v k xs).2 with ⟨_, h2⟩ | ⟨q, cap, cur, h3, _, _, h6, h7, _⟩
  · omega
  · exact ⟨q, cap, h3, h6, h7⟩
end Go.Proofs.YtepelgaekgllcaaDoor
