/- Memory that a call owns: blocks of cells that it has made, what they hold, and a base fact on the rest of the world that making, drawing and writing one's own keeps. No program in it. -/
import Derived.Test.YtomdjmlfnjikfaaDoorPure1
import Derived.Laws.AppendOwn
import Derived.Laws.Rows
namespace Go.Proofs.YtomdjmlfnjikfaaDoor
set_option linter.unusedSimpArgs false
set_option linter.unusedVariables false
open Go.RowKit

/-- Block g, if it is no block of cells, lies as it lay. -/
def Tame (w w' : World) (g : Nat) : Prop := (∀ c t f, w.heap[g]? ≠ some (.cells c t f)) → w'.heap[g]? = w.heap[g]?
theorem tame_set (w : World) (p : Addr) (v : Value) : Tame w (w.setCell p v) p.block := by
  intro h
  by_cases hlt : p.block < w.heap.size
  · show (w.heap.modify p.block _)[p.block]? = _
    rw [Array.getElem?_eq_getElem (by rw [Array.size_modify]; exact hlt), Array.getElem_modify_self, Array.getElem?_eq_getElem hlt]
    rw [Array.getElem?_eq_getElem hlt] at h
    cases ho : w.heap[p.block] with
    | cells c t f => exact absurd (by rw [ho]) (h c t f)
    | _ => rfl
  · rw [Array.getElem?_eq_none (by simp [World.setCell]; omega), Array.getElem?_eq_none (by omega)]
theorem tame_cells {w w' : World} {g : Nat} {c : Array Value} {t : TypeId} {f : Nat × Nat} (h : w.heap[g]? = some (.cells c t f)) : Tame w w' g := fun hn => absurd h (hn c t f)
/-- A fact on the world that stays when blocks are made and cells of blocks from n on are written. -/
structure Stab (n : Nat) (B : World → Prop) : Prop where
  low : ∀ w, B w → n ≤ w.heap.size
  grown : ∀ w w' r, B w → w.grownBy w' r → (∀ g, r = some g → n ≤ g ∧ Tame w w' g) → B w'
theorem Stab.below {n : Nat} {B : World → Prop} (h : Stab n B) (w w' : World) (hB : B w) (hb : Below w.heap.size w w') : B w' :=
  h.grown w w' none hB ⟨hb.os, hb.tape, hb.output, hb.size, fun k hk _ => hb.block k hk⟩ (fun _ e => by cases e)
theorem grownBy_set (w : World) (p : Addr) (v : Value) : w.grownBy (w.setCell p v) (some p.block) :=
  ⟨rfl, rfl, rfl, by simp [World.setCell], fun k _ hk => Below.heap_setCell _ _ _ _ (fun e => hk (by rw [e]))⟩
theorem Stab.set {n : Nat} {B : World → Prop} (h : Stab n B) (w : World) (p : Addr) (v : Value) (hB : B w) (hp : n ≤ p.block) : B (w.setCell p v) :=
  h.grown w _ _ hB (grownBy_set w p v) (fun _ e => by cases e; exact ⟨hp, tame_set w p v⟩)

/-- From offset i on block b holds these cells, and may be written. -/
def CellsAt (w : World) (b : Nat) : Nat → List Value → Prop
  | _, [] => True
  | i, v :: vs => (w.cell? ⟨b, i, none⟩ = some v ∧ w.frozen? ⟨b, i, none⟩ = false) ∧ CellsAt w b (i + 1) vs

/-- A thing that a call owns: a block of its own with these cells; or the row of a slice that it has made: k elements of type e, size cells each, xs their cells, with whatever room behind them. -/
inductive Item where
  | blk (b : Nat) (vs : List Value)
  | row (e : TypeId) (size : Nat) (v : Value) (k : Nat) (xs : List Value)

/-- The block in which it lies. -/
def Item.at? : Item → Option Nat
  | .blk b _ => some b
  | .row _ _ v _ _ => v.ownBlock

/-- It is there. -/
def Item.Holds (n : Nat) (w : World) : Item → Prop
  | .blk b vs => CellsAt w b 0 vs ∧ n ≤ b ∧ b < w.heap.size
  | .row e size v k xs => w.ownsRow n e size v k xs

/-- Two things lie apart. -/
def apartI : Item → Item → Prop
  | .blk b _, .blk c _ => b ≠ c ∧ c ≠ b
  | .blk b _, .row _ _ v _ _ => v.ownBlock ≠ some b
  | .row _ _ v _ _, .blk b _ => v.ownBlock ≠ some b
  | .row _ _ v _ _, .row _ _ u _ _ => ∀ g, v.ownBlock = some g → u.ownBlock ≠ some g

theorem apartI.of {x y : Item} (h : ∀ g, x.at? = some g → y.at? ≠ some g) : apartI x y := by
  cases x <;> cases y <;> simp only [apartI, Item.at?] at *
  · rename_i b vs c us
    have := h b rfl
    exact ⟨fun e => this (by rw [e]), fun e => this (by rw [e])⟩
  · exact h _ rfl
  · rename_i b vs
    exact fun e => h b e rfl
  · exact h
theorem apartI.to {x y : Item} (h : apartI x y) : ∀ g, x.at? = some g → y.at? ≠ some g := by
  intro g hg
  cases x <;> cases y <;> simp only [apartI, Item.at?] at *
  · rename_i b vs c us
    cases hg
    exact fun e => h.1 (Option.some.inj e).symm
  · cases hg; exact h
  · rename_i b vs
    exact fun e => h (by rw [hg, e])
  · exact h g hg
theorem apartI.symm {x y : Item} (h : apartI x y) : apartI y x := .of fun g hg e => h.to g e hg

/-- What a call owns. -/
def Own (n : Nat) (B : World → Prop) (w : World) : List Item → Prop
  | [] => Stab n B ∧ B w
  | it :: L => (it.Holds n w ∧ ∀ x ∈ L, apartI x it) ∧ Own n B w L

theorem CellsAt.imp {w w' : World} {b : Nat} : ∀ {vs : List Value} {i : Nat}, (∀ j, w'.cell? ⟨b, j, none⟩ = w.cell? ⟨b, j, none⟩ ∧ w'.frozen? ⟨b, j, none⟩ = w.frozen? ⟨b, j, none⟩) → CellsAt w b i vs → CellsAt w' b i vs
  | [], _, _, _ => trivial
  | _ :: _, i, h, ⟨⟨h1, h2⟩, h3⟩ => ⟨⟨by rw [(h i).1, h1], by rw [(h i).2, h2]⟩, h3.imp h⟩

theorem CellsAt.set {w : World} {b k : Nat} {v : Value} : ∀ {vs : List Value} {i : Nat}, CellsAt w b i vs → CellsAt (w.setCell ⟨b, k, none⟩ v) b i (if i ≤ k then vs.set (k - i) v else vs)
  | [], i, _ => by split <;> exact trivial
  | x :: vs, i, ⟨⟨h1, h2⟩, h3⟩ => by
    have ih := h3.set (k := k) (v := v)
    by_cases hk : i ≤ k
    · rw [if_pos hk]
      by_cases he : i = k
      · subst he
        rw [if_neg (by omega)] at ih
        rw [Nat.sub_self]
        exact ⟨⟨World.cell?_setCell_same _ _ _ h1, by simpa using h2⟩, ih⟩
      · rw [if_pos (by omega)] at ih
        obtain ⟨d, hd⟩ : ∃ d, k - i = d + 1 := ⟨k - i - 1, by omega⟩
        rw [hd, List.set_cons_succ]
        rw [show k - (i + 1) = d by omega] at ih
        exact ⟨⟨by rw [World.cell?_setCell_other w ⟨b, k, none⟩ _ _ (fun e => he (congrArg Addr.off e).symm), h1], by simpa using h2⟩, ih⟩
    · rw [if_neg hk]
      rw [if_neg (by omega)] at ih
      exact ⟨⟨by rw [World.cell?_setCell_other w ⟨b, k, none⟩ _ _ (fun e => by have := congrArg Addr.off e; simp at this; omega), h1], by simpa using h2⟩, ih⟩

/-- What an item holds behind a store. -/
def updI (b i : Nat) (u : Value) : Item → Item
  | .blk q vs => if q = b then .blk q (vs.set i u) else .blk q vs
  | .row e size v k xs => if v.ownBlock = some b then .row e size v k (xs.set i u) else .row e size v k xs
/-- What the list holds behind a store. -/
def upd (L : List Item) (b i : Nat) (u : Value) : List Item := L.map (updI b i u)
theorem updI_at {b i : Nat} {u : Value} {x : Item} : (updI b i u x).at? = x.at? := by
  cases x <;> (simp only [updI]; split <;> rfl)
theorem apartI_updI {b i : Nat} {u : Value} {x y : Item} (h : apartI x y) : apartI (updI b i u x) (updI b i u y) := .of fun g hg => by
  rw [updI_at] at hg ⊢; exact h.to g hg

section
variable {n : Nat} {B : World → Prop} {w w' : World}

theorem Own.stab : ∀ {L : List Item}, Own n B w L → Stab n B
  | [], h => h.1
  | _ :: _, h => Own.stab h.2
theorem Own.base : ∀ {L : List Item}, Own n B w L → B w
  | [], h => h.2
  | _ :: _, h => Own.base h.2
theorem Own.low {L : List Item} (h : Own n B w L) : n ≤ w.heap.size := h.stab.low w h.base

theorem Item.Holds.below {x : Item} (h : x.Holds n w) (hb : Below w.heap.size w w') : x.Holds n w' := by
  cases x with
  | blk b vs =>
    obtain ⟨h1, h2, h3⟩ := h
    obtain ⟨hc, hf⟩ := bcell hb
    exact ⟨h1.imp fun j => ⟨hc _ _ h3, hf _ _ h3⟩, h2, Nat.lt_of_lt_of_le h3 hb.size⟩
  | row e size v k xs => exact World.ownsRow.kept (row := none) h ⟨hb.os, hb.tape, hb.output, hb.size, fun i hi _ => hb.block i hi⟩ (by cases v.ownBlock <;> simp)
theorem Item.Holds.lt {x : Item} (h : x.Holds n w) : ∀ g, x.at? = some g → n ≤ g ∧ g < w.heap.size := by
  intro g hg
  cases x with
  | blk b vs => cases hg; exact h.2
  | row e size v k xs => exact World.ownsRow.lt h g hg
/-- What has not been touched holds on. -/
theorem Item.Holds.grown {x : Item} {r : Option Nat} (h : x.Holds n w) (hg : w.grownBy w' r) (hr : ∀ g, x.at? = some g → r ≠ some g) : x.Holds n w' := by
  cases x with
  | blk b vs =>
    obtain ⟨h1, h2, h3⟩ := h
    have hk : w'.heap[b]? = w.heap[b]? := hg.block b h3 (fun e => hr b rfl e.symm)
    exact ⟨h1.imp fun j => ⟨World.cell?_of_block (w := w) hk, World.frozen?_of_block (w := w) hk⟩, h2, Nat.lt_of_lt_of_le h3 hg.size⟩
  | row e size v k xs =>
    refine World.ownsRow.kept h hg ?_
    cases hv : v.ownBlock with
    | none => exact Or.inl rfl
    | some g => exact Or.inr fun e => hr g hv e.symm

theorem Own.below : ∀ {L : List Item}, Own n B w L → Below w.heap.size w w' → Own n B w' L
  | [], h, hb => ⟨h.1, h.1.below _ _ h.2 hb⟩
  | _ :: _, ⟨⟨h1, h2⟩, h3⟩, hb => ⟨⟨h1.below hb, h2⟩, h3.below hb⟩

theorem Own.lt : ∀ {L : List Item}, Own n B w L → ∀ x ∈ L, ∀ g, x.at? = some g → n ≤ g ∧ g < w.heap.size
  | [], _, x, hx => by cases hx
  | it :: L, ⟨⟨h1, _⟩, h3⟩, x, hx => by
    rcases List.mem_cons.1 hx with rfl | hx
    · exact h1.lt
    · exact h3.lt x hx
theorem Own.holds : ∀ {L : List Item}, Own n B w L → ∀ x ∈ L, x.Holds n w
  | [], _, x, hx => by cases hx
  | it :: L, ⟨⟨h1, _⟩, h3⟩, x, hx => by
    rcases List.mem_cons.1 hx with rfl | hx
    · exact h1
    · exact h3.holds x hx

theorem Own.drew {L : List Item} (h : Own n B w L) : Own n B w.drew L := h.below (below_drew1 _)

theorem CellsAt.new {w : World} {t : TypeId} {vs : List Value} : CellsAt (w.alloc (.cells vs.toArray t)) w.heap.size 0 vs := by
  suffices h : ∀ (us : List Value) (i : Nat), (∀ j, us[j]? = vs[i + j]?) → CellsAt (w.alloc (.cells vs.toArray t)) w.heap.size i us from h vs 0 (fun j => by simp)
  intro us
  induction us with
  | nil => intro i _; exact trivial
  | cons u us ih =>
    intro i h
    have h0 := h 0
    simp at h0
    refine ⟨⟨?_, ?_⟩, ih (i + 1) (fun j => by have := h (j + 1); simpa [Nat.add_assoc, Nat.add_comm 1 j] using this)⟩
    · simp [← h0]
    · exact World.frozen?_alloc_at _ _ _ _ rfl

theorem Own.alloc {t : TypeId} {vs : List Value} {L : List Item} (h : Own n B w L) : Own n B (w.alloc (.cells vs.toArray t)) (.blk w.heap.size vs :: L) :=
  ⟨⟨⟨CellsAt.new, h.low, by simp⟩, fun x hx => .of fun g hg e => by cases e; have := (h.lt x hx _ hg).2; omega⟩, h.below (below1 _)⟩

theorem Item.Holds.set {x : Item} {b i : Nat} {u : Value} (h : x.Holds n w) : (updI b i u x).Holds n (w.setCell ⟨b, i, none⟩ u) := by
  cases x with
  | blk q vs =>
    obtain ⟨h1, h2, h3⟩ := h
    simp only [updI]
    by_cases hq : q = b
    · subst hq
      rw [if_pos rfl]
      exact ⟨by have := h1.set (k := i) (v := u); simpa using this, h2, by simpa using h3⟩
    · rw [if_neg hq]
      exact ⟨h1.imp fun j => ⟨World.cell?_setCell_other w _ _ _ (fun e => hq (congrArg Addr.block e).symm), by simp⟩, h2, by simpa using h3⟩
  | row e size v k xs =>
    simp only [updI]
    by_cases hq : v.ownBlock = some b
    · rw [if_pos hq]
      obtain ⟨hl, hh⟩ := h
      refine ⟨by simpa using hl, ?_⟩
      rcases hh with ⟨rfl, _⟩ | ⟨g, cap, cur, rfl, hb, hg, hk, hm, hs, ht⟩
      · simp [Value.ownBlock] at hq
      · simp [Value.ownBlock] at hq
        subst hq
        refine Or.inr ⟨g, cap, cur.setIfInBounds i u, rfl, hb, heap_setCell_same _ _ _ _ _ _ hg, hk, hm, by simpa using hs, ?_⟩
        rw [Array.toList_setIfInBounds, List.take_set, ht]
    · rw [if_neg hq]
      obtain ⟨hl, hh⟩ := h
      refine ⟨hl, ?_⟩
      rcases hh with hn | ⟨g, cap, cur, rfl, hb, hg, rest⟩
      · exact Or.inl hn
      · refine Or.inr ⟨g, cap, cur, rfl, hb, ?_, rest⟩
        rw [Below.heap_setCell _ _ _ _ (fun e => hq (by simp only [Value.ownBlock]; rw [e]))]
        exact hg

theorem Own.set0 {b i : Nat} {u : Value} (hb : n ≤ b) : ∀ {L : List Item}, Own n B w L → Own n B (w.setCell ⟨b, i, none⟩ u) (upd L b i u)
  | [], h => ⟨h.1, h.1.set _ _ _ h.2 hb⟩
  | it :: L, ⟨⟨h1, h2⟩, h3⟩ => ⟨⟨h1.set, fun x hx => by
      obtain ⟨y, hy, rfl⟩ := List.mem_map.1 hx
      exact apartI_updI (h2 y hy)⟩, Own.set0 hb h3⟩

theorem Own.set_at {L : List Item} {b i : Nat} {u : Value} (hb : n ≤ b) (h : Own n B w L) : Own n B (w.setCell ⟨b, i, none⟩ u) (upd L b i u) := Own.set0 hb h
end

/-- A cell of a block that is owned, its number reckoned. -/
theorem CellsAt.get {w : World} {b : Nat} : ∀ {vs : List Value} {i j : Nat} {v : Value}, CellsAt w b i vs → vs[j]? = some v → w.cell? ⟨b, i + j, none⟩ = some v
  | [], _, _, _, _, h => by simp at h
  | x :: vs, i, 0, v, h, hv => by simp at hv; subst hv; exact h.1.1
  | x :: vs, i, j + 1, v, h, hv => by
    have := h.2.get (j := j) (by simpa using hv)
    rw [← this]; congr 2; omega
theorem Own.cells {n : Nat} {B : World → Prop} {w : World} {b : Nat} {vs : List Value} {L : List Item} (h : Own n B w L) (hm : Item.blk b vs ∈ L) : CellsAt w b 0 vs := (h.holds _ hm).1
/-- One of a row of numbers, its place reckoned. -/
theorem Own.int_at {n : Nat} {B : World → Prop} {w : World} {b : Nat} {x : Int} {L : List Item} (us : List Int) (h : Own n B w L) (hm : Item.blk b (us.map (Value.int .i64)) ∈ L) (x0 : 0 ≤ x) (x1 : x < us.length) :
    w.cell? ⟨b, x.toNat, none⟩ = some (.int .i64 (us.getD x.toNat 0)) := by
  have hl : x.toNat < us.length := by omega
  have := (h.cells hm).get (j := x.toNat) (v := .int .i64 (us.getD x.toNat 0)) (by simp [List.getD_eq_getElem?_getD, List.getElem?_eq_getElem hl])
  simpa using this
theorem getD_mem {us : List Int} {x : Int} (x0 : 0 ≤ x) (x1 : x < us.length) : us.getD x.toNat 0 ∈ us := by
  have hl : x.toNat < us.length := by omega
  rw [List.getD_eq_getElem?_getD, List.getElem?_eq_getElem hl]
  simp
/-- The same with a name of its own. -/
theorem Own.int_some {n : Nat} {B : World → Prop} {w : World} {b : Nat} {x : Int} {L : List Item} (us : List Int) (h : Own n B w L) (hm : Item.blk b (us.map (Value.int .i64)) ∈ L) (x0 : 0 ≤ x) (x1 : x < us.length) :
    ∃ u, u ∈ us ∧ w.cell? ⟨b, x.toNat, none⟩ = some (.int .i64 u) := ⟨_, getD_mem x0 x1, h.int_at us hm x0 x1⟩

/-- The base of an ordinary call: nothing that was there has turned. -/
theorem Stab.plain (w0 : World) : Stab w0.heap.size (Below w0.heap.size w0) :=
  ⟨fun _ h => h.size, fun _ _ _ h hg hr => h.grown hg h.size fun g e => (hr g e).1⟩
theorem Own.start (w0 : World) : Own w0.heap.size (Below w0.heap.size w0) w0 [] := ⟨Stab.plain w0, Below.refl _ _⟩

/-- A call by its contract: the world behind it is a new one, in which all that is owned is as it was. -/
theorem own_call {P : Program} {f : FuncId} {args : Array Value} {n : Nat} {B : World → Prop} {W : World} {L : List Item} {v : Value} {K : Ending → World → Prop}
    (hO : Own n B W L) (h : B W → Calls P f args W fun e w' => e = .returned v ∧ Below W.heap.size W w') (k : ∀ w1, Own n B w1 L → K (.returned v) w1) : Calls P f args W K :=
  (h hO.base).mono fun e w' ⟨he, hb⟩ => by subst he; exact k w' (hO.below hb)

theorem own_at {P : Program} {f : FuncId} {args : Array Value} {n : Nat} {B : World → Prop} {W : World} {L L0 : List Item} {W0 : World} {K : Ending → World → Prop}
    (_ : Own n B W0 L0) (hO : Own n B W L) (k : Own n B W L → Calls P f args W K) : Calls P f args W K := k hO
theorem own_end {P : Program} {fn : Func} {R : Ending → World → Prop} {a : Act} {n : Nat} {B : World → Prop} {W : World} {L L0 : List Item} {W0 : World}
    (_ : Own n B W0 L0) (hO : Own n B W L) (k : Own n B W L → bodyPost P fn R .ret a W) : bodyPost P fn R .ret a W := k hO
theorem own_code {P : Program} {c : Code} {Q : Exit → Act → World → Prop} {a : Act} {n : Nat} {B : World → Prop} {W : World} {L L0 : List Item} {W0 : World}
    (_ : Own n B W0 L0) (hO : Own n B W L) (k : Own n B W L → c.wp P Q a W) : c.wp P Q a W := k hO
/-- A struct handed back: read in whatever world holds what is owned. -/
theorem own_ret {P : Program} {fn : Func} {R : Ending → World → Prop} {a : Act} {n : Nat} {B : World → Prop} {W : World} {L : List Item} {v : Value}
    (hO : Own n B W L) (hr : ∀ w', Own n B w' L → (results fn a.tmps).run P w' = .ok v w') (hd : a.defers = []) (hR : Own n B W L → R (.returned v) W) : bodyPost P fn R .ret a W :=
  bodyPost_ret (hr W hO) hd (hR hO)
end Go.Proofs.YtomdjmlfnjikfaaDoor
