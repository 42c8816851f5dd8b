/- Memory that a call owns: blocks of cells that it has made, what they hold, and a base fact on the rest of the world that making, drawing and writing one's own keeps. No program in it. -/
import Derived.Test.YtcgcnkddgihkpaaDoorPure1
import Derived.Laws.AppendOwn
import Derived.Laws.Rows
import Derived.OwnWalk
import Derived.OrdersHeld
import Derived.Maps.AppendAt
import Derived.Laws.CopyRow
import Derived.Laws.Tables
namespace Go.Proofs.YtcgcnkddgihkpaaDoor
set_option linter.unusedSimpArgs false
set_option linter.unusedVariables false
set_option maxRecDepth 8000
open Go.RowKit

/-- Block g, if it is no block of cells, lies as it lay. -/
def Tame (w w' : World) (g : Nat) : Prop := (∀ c t f, w.heap[g]? ≠ some (.cells c t f)) → w'.heap[g]? = w.heap[g]?
theorem tame_set (w : World) (p : Addr) (v : Value) : Tame w (w.setCell p v) p.block := by
  intro h
  by_cases hlt : p.block < w.heap.size
  · show (w.heap.modify p.block _)[p.block]? = _
    rw [Array.getElem?_eq_getElem (by rw [Array.size_modify]; exact hlt), Array.getElem_modify_self, Array.getElem?_eq_getElem hlt]
    rw [Array.getElem?_eq_getElem hlt] at h
    cases ho : w.heap[p.block] with
    | cells c t f => exact absurd (by rw [ho]) (h c t f)
    | _ => rfl
  · rw [Array.getElem?_eq_none (by simp [World.setCell]; omega), Array.getElem?_eq_none (by omega)]
theorem tame_cells {w w' : World} {g : Nat} {c : Array Value} {t : TypeId} {f : Nat × Nat} (h : w.heap[g]? = some (.cells c t f)) : Tame w w' g := fun hn => absurd h (hn c t f)
/-- A fact on the world that stays when blocks are made and cells of blocks from n on are written. -/
structure Stab (n : Nat) (B : World → Prop) : Prop where
  low : ∀ w, B w → n ≤ w.heap.size
  grown : ∀ w w' r, B w → w.grownBy w' r → (∀ g, r = some g → n ≤ g ∧ Tame w w' g) → B w'
theorem Stab.below {n : Nat} {B : World → Prop} (h : Stab n B) (w w' : World) (hB : B w) (hb : Below w.heap.size w w') : B w' :=
  h.grown w w' none hB ⟨hb.os, hb.tape, hb.output, hb.size, fun k hk _ => hb.block k hk⟩ (fun _ e => by cases e)
theorem grownBy_set (w : World) (p : Addr) (v : Value) : w.grownBy (w.setCell p v) (some p.block) :=
  ⟨rfl, rfl, rfl, by simp [World.setCell], fun k _ hk => Below.heap_setCell _ _ _ _ (fun e => hk (by rw [e]))⟩
theorem Stab.set {n : Nat} {B : World → Prop} (h : Stab n B) (w : World) (p : Addr) (v : Value) (hB : B w) (hp : n ≤ p.block) : B (w.setCell p v) :=
  h.grown w _ _ hB (grownBy_set w p v) (fun _ e => by cases e; exact ⟨hp, tame_set w p v⟩)

/-- From offset i on block b holds these cells, and may be written. -/
def CellsAt (w : World) (b : Nat) : Nat → List Value → Prop
  | _, [] => True
  | i, v :: vs => (w.cell? ⟨b, i, none⟩ = some v ∧ w.frozen? ⟨b, i, none⟩ = false) ∧ CellsAt w b (i + 1) vs

/-- A thing that a call owns: a block of its own with these cells; or the row of a slice that it has made: k elements of type e, size cells each, xs their cells, with whatever room behind them. -/
inductive Item where
  | blk (b : Nat) (vs : List Value)
  | row (e : TypeId) (size : Nat) (v : Value) (k : Nat) (xs : List Value)

/-- The block in which it lies. -/
def Item.at? : Item → Option Nat
  | .blk b _ => some b
  | .row _ _ v _ _ => v.ownBlock

/-- It is there. -/
def Item.Holds (n : Nat) (w : World) : Item → Prop
  | .blk b vs => CellsAt w b 0 vs ∧ n ≤ b ∧ b < w.heap.size
  | .row e size v k xs => w.ownsRow n e size v k xs

/-- Two things lie apart. -/
def apartI : Item → Item → Prop
  | .blk b _, .blk c _ => b ≠ c ∧ c ≠ b
  | .blk b _, .row _ _ v _ _ => v.ownBlock ≠ some b
  | .row _ _ v _ _, .blk b _ => v.ownBlock ≠ some b
  | .row _ _ v _ _, .row _ _ u _ _ => ∀ g, v.ownBlock = some g → u.ownBlock ≠ some g

theorem apartI.of {x y : Item} (h : ∀ g, x.at? = some g → y.at? ≠ some g) : apartI x y := by
  cases x <;> cases y <;> simp only [apartI, Item.at?] at *
  · rename_i b vs c us
    have := h b rfl
    exact ⟨fun e => this (by rw [e]), fun e => this (by rw [e])⟩
  · exact h _ rfl
  · rename_i b vs
    exact fun e => h b e rfl
  · exact h
theorem apartI.to {x y : Item} (h : apartI x y) : ∀ g, x.at? = some g → y.at? ≠ some g := by
  intro g hg
  cases x <;> cases y <;> simp only [apartI, Item.at?] at *
  · rename_i b vs c us
    cases hg
    exact fun e => h.1 (Option.some.inj e).symm
  · cases hg; exact h
  · rename_i b vs
    exact fun e => h (by rw [hg, e])
  · exact h g hg
theorem apartI.symm {x y : Item} (h : apartI x y) : apartI y x := .of fun g hg e => h.to g e hg

/-- What a call owns. -/
def Own (n : Nat) (B : World → Prop) (w : World) : List Item → Prop
  | [] => Stab n B ∧ B w
  | it :: L => (it.Holds n w ∧ ∀ x ∈ L, apartI x it) ∧ Own n B w L

theorem CellsAt.imp {w w' : World} {b : Nat} : ∀ {vs : List Value} {i : Nat}, (∀ j, w'.cell? ⟨b, j, none⟩ = w.cell? ⟨b, j, none⟩ ∧ w'.frozen? ⟨b, j, none⟩ = w.frozen? ⟨b, j, none⟩) → CellsAt w b i vs → CellsAt w' b i vs
  | [], _, _, _ => trivial
  | _ :: _, i, h, ⟨⟨h1, h2⟩, h3⟩ => ⟨⟨by rw [(h i).1, h1], by rw [(h i).2, h2]⟩, h3.imp h⟩

theorem CellsAt.set {w : World} {b k : Nat} {v : Value} : ∀ {vs : List Value} {i : Nat}, CellsAt w b i vs → CellsAt (w.setCell ⟨b, k, none⟩ v) b i (if i ≤ k then vs.set (k - i) v else vs)
  | [], i, _ => by split <;> exact trivial
  | x :: vs, i, ⟨⟨h1, h2⟩, h3⟩ => by
    have ih := h3.set (k := k) (v := v)
    by_cases hk : i ≤ k
    · rw [if_pos hk]
      by_cases he : i = k
      · subst he
        rw [if_neg (by omega)] at ih
        rw [Nat.sub_self]
        exact ⟨⟨World.cell?_setCell_same _ _ _ h1, by simpa using h2⟩, ih⟩
      · rw [if_pos (by omega)] at ih
        obtain ⟨d, hd⟩ : ∃ d, k - i = d + 1 := ⟨k - i - 1, by omega⟩
        rw [hd, List.set_cons_succ]
        rw [show k - (i + 1) = d by omega] at ih
        exact ⟨⟨by rw [World.cell?_setCell_other w ⟨b, k, none⟩ _ _ (fun e => he (congrArg Addr.off e).symm), h1], by simpa using h2⟩, ih⟩
    · rw [if_neg hk]
      rw [if_neg (by omega)] at ih
      exact ⟨⟨by rw [World.cell?_setCell_other w ⟨b, k, none⟩ _ _ (fun e => by have := congrArg Addr.off e; simp at this; omega), h1], by simpa using h2⟩, ih⟩

/-- What an item holds behind a store. -/
def updI (b i : Nat) (u : Value) : Item → Item
  | .blk q vs => if q = b then .blk q (vs.set i u) else .blk q vs
  | .row e size v k xs => if v.ownBlock = some b then .row e size v k (xs.set i u) else .row e size v k xs
/-- What the list holds behind a store. -/
def upd (L : List Item) (b i : Nat) (u : Value) : List Item := L.map (updI b i u)
theorem updI_at {b i : Nat} {u : Value} {x : Item} : (updI b i u x).at? = x.at? := by
  cases x <;> (simp only [updI]; split <;> rfl)
theorem apartI_updI {b i : Nat} {u : Value} {x y : Item} (h : apartI x y) : apartI (updI b i u x) (updI b i u y) := .of fun g hg => by
  rw [updI_at] at hg ⊢; exact h.to g hg

section
variable {n : Nat} {B : World → Prop} {w w' : World}

theorem Own.stab : ∀ {L : List Item}, Own n B w L → Stab n B
  | [], h => h.1
  | _ :: _, h => Own.stab h.2
theorem Own.base : ∀ {L : List Item}, Own n B w L → B w
  | [], h => h.2
  | _ :: _, h => Own.base h.2
theorem Own.low {L : List Item} (h : Own n B w L) : n ≤ w.heap.size := h.stab.low w h.base

theorem Item.Holds.below {x : Item} (h : x.Holds n w) (hb : Below w.heap.size w w') : x.Holds n w' := by
  cases x with
  | blk b vs =>
    obtain ⟨h1, h2, h3⟩ := h
    obtain ⟨hc, hf⟩ := bcell hb
    exact ⟨h1.imp fun j => ⟨hc _ _ h3, hf _ _ h3⟩, h2, Nat.lt_of_lt_of_le h3 hb.size⟩
  | row e size v k xs => exact World.ownsRow.kept (row := none) h ⟨hb.os, hb.tape, hb.output, hb.size, fun i hi _ => hb.block i hi⟩ (by cases v.ownBlock <;> simp)
theorem Item.Holds.lt {x : Item} (h : x.Holds n w) : ∀ g, x.at? = some g → n ≤ g ∧ g < w.heap.size := by
  intro g hg
  cases x with
  | blk b vs => cases hg; exact h.2
  | row e size v k xs => exact World.ownsRow.lt h g hg
/-- What has not been touched holds on. -/
theorem Item.Holds.grown {x : Item} {r : Option Nat} (h : x.Holds n w) (hg : w.grownBy w' r) (hr : ∀ g, x.at? = some g → r ≠ some g) : x.Holds n w' := by
  cases x with
  | blk b vs =>
    obtain ⟨h1, h2, h3⟩ := h
    have hk : w'.heap[b]? = w.heap[b]? := hg.block b h3 (fun e => hr b rfl e.symm)
    exact ⟨h1.imp fun j => ⟨World.cell?_of_block (w := w) hk, World.frozen?_of_block (w := w) hk⟩, h2, Nat.lt_of_lt_of_le h3 hg.size⟩
  | row e size v k xs =>
    refine World.ownsRow.kept h hg ?_
    cases hv : v.ownBlock with
    | none => exact Or.inl rfl
    | some g => exact Or.inr fun e => hr g hv e.symm

theorem Own.below : ∀ {L : List Item}, Own n B w L → Below w.heap.size w w' → Own n B w' L
  | [], h, hb => ⟨h.1, h.1.below _ _ h.2 hb⟩
  | _ :: _, ⟨⟨h1, h2⟩, h3⟩, hb => ⟨⟨h1.below hb, h2⟩, h3.below hb⟩

theorem Own.lt : ∀ {L : List Item}, Own n B w L → ∀ x ∈ L, ∀ g, x.at? = some g → n ≤ g ∧ g < w.heap.size
  | [], _, x, hx => by cases hx
  | it :: L, ⟨⟨h1, _⟩, h3⟩, x, hx => by
    rcases List.mem_cons.1 hx with rfl | hx
    · exact h1.lt
    · exact h3.lt x hx
theorem Own.holds : ∀ {L : List Item}, Own n B w L → ∀ x ∈ L, x.Holds n w
  | [], _, x, hx => by cases hx
  | it :: L, ⟨⟨h1, _⟩, h3⟩, x, hx => by
    rcases List.mem_cons.1 hx with rfl | hx
    · exact h1
    · exact h3.holds x hx

theorem Own.drew {L : List Item} (h : Own n B w L) : Own n B w.drew L := h.below (below_drew1 _)

theorem CellsAt.new {w : World} {t : TypeId} {vs : List Value} : CellsAt (w.alloc (.cells vs.toArray t)) w.heap.size 0 vs := by
  suffices h : ∀ (us : List Value) (i : Nat), (∀ j, us[j]? = vs[i + j]?) → CellsAt (w.alloc (.cells vs.toArray t)) w.heap.size i us from h vs 0 (fun j => by simp)
  intro us
  induction us with
  | nil => intro i _; exact trivial
  | cons u us ih =>
    intro i h
    have h0 := h 0
    simp at h0
    refine ⟨⟨?_, ?_⟩, ih (i + 1) (fun j => by have := h (j + 1); simpa [Nat.add_assoc, Nat.add_comm 1 j] using this)⟩
    · simp [← h0]
    · exact World.frozen?_alloc_at _ _ _ _ rfl

theorem Own.alloc {t : TypeId} {vs : List Value} {L : List Item} (h : Own n B w L) : Own n B (w.alloc (.cells vs.toArray t)) (.blk w.heap.size vs :: L) :=
  ⟨⟨⟨CellsAt.new, h.low, by simp⟩, fun x hx => .of fun g hg e => by cases e; have := (h.lt x hx _ hg).2; omega⟩, h.below (below1 _)⟩

theorem Item.Holds.set {x : Item} {b i : Nat} {u : Value} (h : x.Holds n w) : (updI b i u x).Holds n (w.setCell ⟨b, i, none⟩ u) := by
  cases x with
  | blk q vs =>
    obtain ⟨h1, h2, h3⟩ := h
    simp only [updI]
    by_cases hq : q = b
    · subst hq
      rw [if_pos rfl]
      exact ⟨by have := h1.set (k := i) (v := u); simpa using this, h2, by simpa using h3⟩
    · rw [if_neg hq]
      exact ⟨h1.imp fun j => ⟨World.cell?_setCell_other w _ _ _ (fun e => hq (congrArg Addr.block e).symm), by simp⟩, h2, by simpa using h3⟩
  | row e size v k xs =>
    simp only [updI]
    by_cases hq : v.ownBlock = some b
    · rw [if_pos hq]
      obtain ⟨hl, hh⟩ := h
      refine ⟨by simpa using hl, ?_⟩
      rcases hh with ⟨rfl, _⟩ | ⟨g, cap, cur, rfl, hb, hg, hk, hm, hs, ht⟩
      · simp [Value.ownBlock] at hq
      · simp [Value.ownBlock] at hq
        subst hq
        refine Or.inr ⟨g, cap, cur.setIfInBounds i u, rfl, hb, heap_setCell_same _ _ _ _ _ _ hg, hk, hm, by simpa using hs, ?_⟩
        rw [Array.toList_setIfInBounds, List.take_set, ht]
    · rw [if_neg hq]
      obtain ⟨hl, hh⟩ := h
      refine ⟨hl, ?_⟩
      rcases hh with hn | ⟨g, cap, cur, rfl, hb, hg, rest⟩
      · exact Or.inl hn
      · refine Or.inr ⟨g, cap, cur, rfl, hb, ?_, rest⟩
        rw [Below.heap_setCell _ _ _ _ (fun e => hq (by simp only [Value.ownBlock]; rw [e]))]
        exact hg

theorem Own.set0 {b i : Nat} {u : Value} (hb : n ≤ b) : ∀ {L : List Item}, Own n B w L → Own n B (w.setCell ⟨b, i, none⟩ u) (upd L b i u)
  | [], h => ⟨h.1, h.1.set _ _ _ h.2 hb⟩
  | it :: L, ⟨⟨h1, h2⟩, h3⟩ => ⟨⟨h1.set, fun x hx => by
      obtain ⟨y, hy, rfl⟩ := List.mem_map.1 hx
      exact apartI_updI (h2 y hy)⟩, Own.set0 hb h3⟩

theorem Own.set_at {L : List Item} {b i : Nat} {u : Value} (hb : n ≤ b) (h : Own n B w L) : Own n B (w.setCell ⟨b, i, none⟩ u) (upd L b i u) := Own.set0 hb h
end

/-- A cell of a block that is owned, its number reckoned. -/
theorem CellsAt.get {w : World} {b : Nat} : ∀ {vs : List Value} {i j : Nat} {v : Value}, CellsAt w b i vs → vs[j]? = some v → w.cell? ⟨b, i + j, none⟩ = some v
  | [], _, _, _, _, h => by simp at h
  | x :: vs, i, 0, v, h, hv => by simp at hv; subst hv; exact h.1.1
  | x :: vs, i, j + 1, v, h, hv => by
    have := h.2.get (j := j) (by simpa using hv)
    rw [← this]; congr 2; omega
theorem Own.cells {n : Nat} {B : World → Prop} {w : World} {b : Nat} {vs : List Value} {L : List Item} (h : Own n B w L) (hm : Item.blk b vs ∈ L) : CellsAt w b 0 vs := (h.holds _ hm).1
/-- One of a row of numbers, its place reckoned. -/
theorem Own.int_at {n : Nat} {B : World → Prop} {w : World} {b : Nat} {x : Int} {L : List Item} (us : List Int) (h : Own n B w L) (hm : Item.blk b (us.map (Value.int .i64)) ∈ L) (x0 : 0 ≤ x) (x1 : x < us.length) :
    w.cell? ⟨b, x.toNat, none⟩ = some (.int .i64 (us.getD x.toNat 0)) := by
  have hl : x.toNat < us.length := by omega
  have := (h.cells hm).get (j := x.toNat) (v := .int .i64 (us.getD x.toNat 0)) (by simp [List.getD_eq_getElem?_getD, List.getElem?_eq_getElem hl])
  simpa using this
theorem getD_mem {us : List Int} {x : Int} (x0 : 0 ≤ x) (x1 : x < us.length) : us.getD x.toNat 0 ∈ us := by
  have hl : x.toNat < us.length := by omega
  rw [List.getD_eq_getElem?_getD, List.getElem?_eq_getElem hl]
  simp
/-- The same with a name of its own. -/
theorem Own.int_some {n : Nat} {B : World → Prop} {w : World} {b : Nat} {x : Int} {L : List Item} (us : List Int) (h : Own n B w L) (hm : Item.blk b (us.map (Value.int .i64)) ∈ L) (x0 : 0 ≤ x) (x1 : x < us.length) :
    ∃ u, u ∈ us ∧ w.cell? ⟨b, x.toNat, none⟩ = some (.int .i64 u) := ⟨_, getD_mem x0 x1, h.int_at us hm x0 x1⟩

/-- The base of an ordinary call: nothing that was there has turned. -/
theorem Stab.plain (w0 : World) : Stab w0.heap.size (Below w0.heap.size w0) :=
  ⟨fun _ h => h.size, fun _ _ _ h hg hr => h.grown hg h.size fun g e => (hr g e).1⟩
theorem Own.start (w0 : World) : Own w0.heap.size (Below w0.heap.size w0) w0 [] := ⟨Stab.plain w0, Below.refl _ _⟩

/-- A call by its contract: the world behind it is a new one, in which all that is owned is as it was. -/
theorem own_call {P : Program} {f : FuncId} {args : Array Value} {n : Nat} {B : World → Prop} {W : World} {L : List Item} {v : Value} {K : Ending → World → Prop}
    (hO : Own n B W L) (h : B W → Calls P f args W fun e w' => e = .returned v ∧ Below W.heap.size W w') (k : ∀ w1, Own n B w1 L → K (.returned v) w1) : Calls P f args W K :=
  (h hO.base).mono fun e w' ⟨he, hb⟩ => by subst he; exact k w' (hO.below hb)

theorem own_at {P : Program} {f : FuncId} {args : Array Value} {n : Nat} {B : World → Prop} {W : World} {L L0 : List Item} {W0 : World} {K : Ending → World → Prop}
    (_ : Own n B W0 L0) (hO : Own n B W L) (k : Own n B W L → Calls P f args W K) : Calls P f args W K := k hO
theorem own_end {P : Program} {fn : Func} {R : Ending → World → Prop} {a : Act} {n : Nat} {B : World → Prop} {W : World} {L L0 : List Item} {W0 : World}
    (_ : Own n B W0 L0) (hO : Own n B W L) (k : Own n B W L → bodyPost P fn R .ret a W) : bodyPost P fn R .ret a W := k hO
theorem own_code {P : Program} {c : Code} {Q : Exit → Act → World → Prop} {a : Act} {n : Nat} {B : World → Prop} {W : World} {L L0 : List Item} {W0 : World}
    (_ : Own n B W0 L0) (hO : Own n B W L) (k : Own n B W L → c.wp P Q a W) : c.wp P Q a W := k hO
/-- A struct handed back: read in whatever world holds what is owned. -/
theorem own_ret {P : Program} {fn : Func} {R : Ending → World → Prop} {a : Act} {n : Nat} {B : World → Prop} {W : World} {L : List Item} {v : Value}
    (hO : Own n B W L) (hr : ∀ w', Own n B w' L → (results fn a.tmps).run P w' = .ok v w') (hd : a.defers = []) (hR : Own n B W L → R (.returned v) W) : bodyPost P fn R .ret a W :=
  bodyPost_ret (hr W hO) hd (hR hO)

/- Slices that a call has made: what append, make and a call that hands one back do to what is owned. No program in it. -/
open Go.RowKit

theorem ownsRow_mono {w : World} {b n : Nat} {e : TypeId} {size : Nat} {v : Value} {k : Nat} {xs : List Value} (h : w.ownsRow b e size v k xs) (hn : n ≤ b) : w.ownsRow n e size v k xs := by
  obtain ⟨h1, h2⟩ := h
  refine ⟨h1, ?_⟩
  rcases h2 with h2 | ⟨g, cap, cur, h3, h4, h5⟩
  · exact Or.inl h2
  · exact Or.inr ⟨g, cap, cur, h3, Nat.le_trans hn h4, h5⟩

section
variable {n : Nat} {B : World → Prop} {w w' : World} {L : List Item}

theorem Own.perm {L' : List Item} (hp : L.Perm L') (h : Own n B w L) : Own n B w L' := by
  induction hp with
  | nil => exact h
  | cons x _ ih => exact ⟨⟨h.1.1, fun y hy => h.1.2 y ((List.Perm.mem_iff ‹_›).2 hy)⟩, ih h.2⟩
  | swap x y l =>
    obtain ⟨⟨h1, h2⟩, ⟨⟨h3, h4⟩, h5⟩⟩ := h
    refine ⟨⟨h3, fun z hz => ?_⟩, ⟨⟨h1, fun z hz => h2 z (List.mem_cons_of_mem _ hz)⟩, h5⟩⟩
    rcases List.mem_cons.1 hz with rfl | hz
    · exact (h2 x (by simp)).symm
    · exact h4 z hz
  | trans _ _ ih1 ih2 => exact ih2 (ih1 h)

/-- A row at the head is written, or laid anew: what else is owned is as it was. -/
theorem Own.regrown {e e' : TypeId} {size size' : Nat} {v v' : Value} {k k' : Nat} {xs xs' : List Value} (h : Own n B w (.row e size v k xs :: L)) (hg : w.grownBy w' v.ownBlock) (hr : w'.ownsRow n e' size' v' k' xs') (hv : v'.ownBlock = v.ownBlock ∨ v'.ownBlock = some w.heap.size) : Own n B w' (.row e' size' v' k' xs' :: L) := by
  obtain ⟨⟨h1, h2⟩, h3⟩ := h
  have hn : ∀ g, v.ownBlock = some g → n ≤ g ∧ Tame w w' g := fun g e => ⟨(Item.Holds.lt (x := .row _ _ _ _ _) h1 g e).1, by
    rcases (h1 : w.ownsRow n _ size v k xs).2 with ⟨h0, _⟩ | ⟨q, cap, cur, h0, _, hq, _⟩
    · subst h0; cases e
    · subst h0; cases e; exact tame_cells hq⟩
  refine ⟨⟨hr, fun x hx => .of fun g hx1 e => ?_⟩, ?_⟩
  · have hlt := (h3.lt x hx g hx1).2
    have hap := (h2 x hx).to g hx1
    simp only [Item.at?] at e hap
    rcases hv with hv | hv
    · exact hap (by rw [← hv]; exact e)
    · rw [hv] at e; cases e; omega
  · have hap : ∀ x ∈ L, ∀ g, x.at? = some g → v.ownBlock ≠ some g := fun x hx g hg => (h2 x hx).to g hg
    clear h2 hr hv
    induction L with
    | nil => exact ⟨h3.1, h3.1.grown _ _ _ h3.2 hg hn⟩
    | cons y L ih =>
      obtain ⟨⟨g1, g2⟩, g3⟩ := h3
      exact ⟨⟨g1.grown hg (hap y (by simp)), g2⟩, ih g3 (fun x hx => hap x (List.mem_cons_of_mem _ hx))⟩

/-- A new row, of a call or of make. -/
theorem Own.addRow {e : TypeId} {size : Nat} {v : Value} {k : Nat} {xs : List Value} (h : Own n B w L) (hb : Below w.heap.size w w') (hr : w'.ownsRow w.heap.size e size v k xs) : Own n B w' (.row e size v k xs :: L) :=
  ⟨⟨ownsRow_mono hr h.low, fun x hx => .of fun g hx1 e => by
    have h1 := (h.lt x hx g hx1).2
    have h2 := (World.ownsRow.lt hr g e).1
    omega⟩, h.below hb⟩
/-- An array laid for a slice of its own. -/
theorem Own.allocRow {e : TypeId} (size : Nat) {cur : Array Value} {k cap : Nat} (h : Own n B w L) (hk : k ≤ cap) (hm : cap ≤ maxLen) (hs : cur.size = cap * size) :
    Own n B (w.alloc (.cells cur e)) (.row e size (.slice (some ⟨w.heap.size, 0, none⟩) k cap) k (cur.toList.take (k * size)) :: L) :=
  h.addRow (below1 _) ⟨by simp [hs, Nat.min_eq_left (Nat.mul_le_mul_right size hk)], .inr ⟨w.heap.size, cap, cur, rfl, Nat.le_refl _, heap_alloc_new w _, hk, hm, hs, rfl⟩⟩
theorem Own.drop {x : Item} (h : Own n B w (x :: L)) : Own n B w L := h.2
end

theorem append_block {P : Program} {w : World} {base : Nat} {t ty e : TypeId} {i : TypeInfo} {z : Value} {size bytes : Nat} (ht : P.underlying t = some (.slice e)) (hi : P.info? e = some i) (hz : i.zero = some z)
    (hsize : i.size = size) (hby : i.bytes = bytes) {v : Value} {n : Nat} {xs : List Value} (hown : w.ownsRow base e size v n xs)
    {a : Addr} {m c : Nat} {news : List Value} (hm : 0 < m) (hl : news.length = m * size) (hnews : ∀ j u, news[j]? = some u → w.cell? (a.add j) = some u) (h1 : ∀ u ∈ news, u.oneCell' = true)
    (h63 : n + m ≤ maxLen) (hbytes : (n + m) * bytes ≤ 140737488355328) {v' : Value} {w' : World} (hr : (Builtin.append_ #[t, t] ty #[v, .slice (some a) m c]).run P w = .ok v' w') :
    v'.ownBlock = v.ownBlock ∨ v'.ownBlock = some w.heap.size := by
  subst hsize
  subst hby
  have hsmall : n + m ≤ 9223372036854775807 := by simp only [maxLen] at h63; omega
  rcases hown.2 with ⟨rfl, rfl⟩ | ⟨g, cap, cur, rfl, hbg, hg, hnc, hcm, hcs, htake⟩
  · have hr1 := run_append_nil (P := P) w t ty e i z ht hi hz a m c news hl hnews hm (by omega) (by have hb := hbytes; simp only [Nat.zero_add] at hb; omega)
    rw [hr1] at hr
    cases hr
    exact Or.inr rfl
  · by_cases hroom : n + m ≤ cap
    · have hfit : n * i.size + news.length ≤ cur.size := by rw [hl, hcs, ← Nat.add_mul]; exact Nat.mul_le_mul_right _ hroom
      have hr1 := run_append_room (P := P) w t ty e i ht hi g n cap cur hg a m c news hl hnews h1 hroom hfit
      rw [hr1] at hr
      cases hr
      exact Or.inl rfl
    · have holds : ∀ j u, xs[j]? = some u → w.cell? ((⟨g, 0, none⟩ : Addr).add j) = some u := hown.cells (g := g) rfl
      have hr1 := run_append_grow (P := P) w t ty e i z ht hi hz ⟨g, 0, none⟩ n cap xs hown.1 holds a m c news hl hnews (by omega) (by omega) (growslice_fits (by omega) hbytes)
      rw [hr1] at hr
      cases hr
      exact Or.inr rfl

theorem add_flat (b j : Nat) : (⟨b, 0, none⟩ : Addr).add j = ⟨b, j, none⟩ := by unfold Addr.add; split <;> simp_all

/-- 'out = append(out, x)': the one element lies in a block of its own at the head, the row behind it. -/
theorem wpList_append_item {P : Program} {ops : Array Oper} {rest : List Oper} {o : Oper} {a : Act} {Q : Exit → Act → World → Prop} {n : Nat} {B : World → Prop} {w : World} {L : List Item} {v : Value} {k q c : Nat} {xs news : List Value}
    (hgd : o.guard = none) (s x : Operand) (t : TypeId) (ho : o.op = .call { callee := .builtin .append, args := #[s, x], argTypes := #[t, t] })
    (e : TypeId) (i : TypeInfo) (z : Value) (size bytes : Nat) (ht : P.underlying t = some (.slice e)) (hi : P.info? e = some i) (hz : i.zero = some z)
    (hsize : i.size = size) (hby : i.bytes = bytes) (hzs : z.cells.size = size) (hsz : 0 < size)
    (hs : a.eval s = v) (hx : a.eval x = .slice (some ⟨q, 0, none⟩) 1 c) (hO : Own n B w (.blk q news :: .row e size v k xs :: L)) (hl : news.length = size) (h1 : ∀ u ∈ news, u.oneCell' = true)
    (h63 : k + 1 ≤ maxLen) (hbytes : (k + 1) * bytes ≤ 140737488355328)
    (h : ∀ v' w', Own n B w' (.row e size v' (k + 1) (xs ++ news) :: L) → (v' = .slice none 0 0 → False) → wpList P ops Q rest (a.put o.dst v') w') : wpList P ops Q (o :: rest) a w := by
  refine wpList_plain hgd fun K hK => ?_
  have hown : w.ownsRow n e size v k xs := hO.2.1.1
  have hnews : ∀ j u, news[j]? = some u → w.cell? ((⟨q, 0, none⟩ : Addr).add j) = some u := fun j u hj => by
    rw [add_flat]
    have := (hO.cells (b := q) (vs := news) (by simp)).get hj
    simpa using this
  obtain ⟨v', w', hr, h2, h3, h4⟩ := run_append_own (P := P) w n t o.type e i z size bytes ht hi hz hsize hby hzs hsz v k xs hown ⟨q, 0, none⟩ 1 c news (by simpa using hl) hnews h1 h63 hbytes hO.low
  have h5 := append_block ht hi hz hsize hby hown (by omega) (by simpa using hl) hnews h1 h63 hbytes hr
  unfold Oper.wp execOp
  simp only [ho, resolve, invoke, builtin, Sem.run_bind, Sem.run_pure, Result.andThen_ok, List.map_toArray, List.map_cons, List.map_nil, hs, hx, hr]
  exact hK _ _ (h v' w' (hO.2.regrown h3 h2 h5) (fun e => by have := h4.1 e; omega))

/-- What a call that hands back a slice of its own leaves. -/
def RowOut (e : TypeId) (size k : Nat) (xs : List Value) (w : World) (e' : Ending) (w' : World) : Prop := ∃ v, e' = .returned v ∧ w'.ownsRow w.heap.size e size v k xs ∧ Below w.heap.size w w'
theorem RowOut.mk {e : TypeId} {size k : Nat} {xs : List Value} {w w' : World} {v : Value} {L : List Item} (hO : Own w.heap.size (Below w.heap.size w) w' (.row e size v k xs :: L)) : RowOut e size k xs w (.returned v) w' := ⟨v, rfl, hO.1.1, hO.base⟩
/-- A call that hands back a slice that it has made. -/
theorem own_call_row {P : Program} {f : FuncId} {args : Array Value} {n : Nat} {B : World → Prop} {W : World} {L : List Item} {e : TypeId} {size k : Nat} {xs : List Value} {K : Ending → World → Prop}
    (hO : Own n B W L) (h : B W → Calls P f args W (RowOut e size k xs W)) (k' : ∀ v w1, Own n B w1 (.row e size v k xs :: L) → K (.returned v) w1) : Calls P f args W K :=
  (h hO.base).mono fun e' w' ⟨v, he, hr, hb⟩ => by subst he; exact k' v w' (hO.addRow hb hr)

/-- A call whose contract asks what is owned. -/
theorem own_callO {P : Program} {f : FuncId} {args : Array Value} {n : Nat} {B : World → Prop} {W : World} {L : List Item} {v : Value} {K : Ending → World → Prop}
    (hO : Own n B W L) (h : Own n B W L → Calls P f args W fun e w' => e = .returned v ∧ Below W.heap.size W w') (k : ∀ w1, Own n B w1 L → K (.returned v) w1) : Calls P f args W K :=
  own_call hO (fun _ => h hO) k
/-- A slice lies in memory: k elements of size cells each, xs their cells. -/
def SlAt (w : World) (v : Value) (k size : Nat) (xs : List Value) : Prop :=
  xs.length = k * size ∧ ((v = .slice none 0 0 ∧ k = 0) ∨ ∃ b off cap, v = .slice (some ⟨b, off, none⟩) k cap ∧ k ≤ cap ∧ cap ≤ maxLen ∧ b < w.heap.size ∧ ∀ j u, xs[j]? = some u → w.cell? ⟨b, off + j, none⟩ = some u)
theorem SlAt.of_row {w : World} {n : Nat} {e : TypeId} {size : Nat} {v : Value} {k : Nat} {xs : List Value} (h : w.ownsRow n e size v k xs) : SlAt w v k size xs := by
  refine ⟨h.1, ?_⟩
  rcases h.2 with h2 | ⟨g, cap, cur, rfl, h4, h5, h6, h7, h8⟩
  · exact Or.inl h2
  · exact Or.inr ⟨g, 0, cap, rfl, h6, h7, (Array.getElem?_eq_some_iff.1 h5).1, fun j u hj => by
      have := h.cells (g := g) rfl j u hj
      rw [add_flat] at this
      simpa using this⟩
theorem SlAt.below {w w' : World} {v : Value} {k size : Nat} {xs : List Value} (h : SlAt w v k size xs) (hb : Below w.heap.size w w') : SlAt w' v k size xs := by
  obtain ⟨h1, h2⟩ := h
  refine ⟨h1, ?_⟩
  rcases h2 with h2 | ⟨b, off, cap, h3, h4, h5, h6, h7⟩
  · exact Or.inl h2
  · exact Or.inr ⟨b, off, cap, h3, h4, h5, Nat.lt_of_lt_of_le h6 hb.size, fun j u hj => by rw [(bcell hb).1 _ _ h6]; exact h7 j u hj⟩

/-- One of a row of numbers in a block, by the list's own number. -/
theorem own_ints {n : Nat} {B : World → Prop} {w : World} {b k : Nat} {y : Int} {L : List Item} (us : List Int) (h : Own n B w L) (hm : Item.blk b (us.map (Value.int .i64)) ∈ L) (hy : us[k]? = some y) : w.cell? ⟨b, k, none⟩ = some (.int .i64 y) := by
  have := (h.cells hm).get (j := k) (v := .int .i64 y) (by rw [List.getElem?_map, hy]; rfl)
  simpa using this

/- A region that draws its order, walked once: operations that yield one value wherever what is owned holds, and turn nothing that was there, may be taken in the order of the text, calls among them. No program in it. -/
open Go.RowKit

section
variable {P : Program} {ops : Array Oper} {Q : Exit → Act → World → Prop} {md : Region.Mode} {n : Nat} {B : World → Prop} {M : List Nat}

/-- A passing fact on the world, kept by calls that turn nothing that was there. -/
def XStab (X : World → Prop) : Prop := ∀ w w', X w → Below w.heap.size w w' → X w'

/-- What an operation has come to: the value v, and nothing that was there has turned. -/
def Out (P : Program) (v : Value) (w : World) : Result Next → Prop
  | .ok (.value u) w' => u = v ∧ Below w.heap.size w w'
  | .ok .skip w' => undef = v ∧ Below w.heap.size w w'
  | .ok (.enter f args) w' => Below w.heap.size w w' ∧ Calls P f args w' fun e w'' => e = .returned v ∧ Below w'.heap.size w' w''
  | .ok (.row row args) w' => Below w.heap.size w w' ∧ Rows P row args w' fun u w'' => u = v ∧ Below w'.heap.size w' w''
  | _ => False

/-- In state a, wherever L is owned, o yields v. -/
def YieldsO (P : Program) (ops : Array Oper) (n : Nat) (B : World → Prop) (L : List Item) (o : Oper) (v : Value) (a : Act) : Prop :=
  (Region.wanted o (yielded ops a.tmps) = true ∧ ∀ w, Own n B w L → Out P v w ((execOp a.eval o).run P w)) ∨
  (Region.wanted o (yielded ops a.tmps) = false ∧ v = undef)

theorem YieldsO.of_same {L : List Item} {o : Oper} {v : Value} {a a' : Act} (hy : YieldsO P ops n B L o v a) (he : execOp a'.eval o = execOp a.eval o)
    (hw : Region.wanted o (yielded ops a'.tmps) = Region.wanted o (yielded ops a.tmps)) : YieldsO P ops n B L o v a' := by
  unfold YieldsO at *
  rw [he, hw]
  exact hy

theorem YieldsO.ext {L L' : List Item} {o : Oper} {v : Value} {a : Act} (hy : YieldsO P ops n B L o v a) (h : ∀ w, Own n B w L' → Own n B w L) : YieldsO P ops n B L' o v a :=
  hy.imp (fun ⟨hw, hv⟩ => ⟨hw, fun w hO => hv w (h w hO)⟩) id

theorem YieldsO.wpOp {i : Nat} {L : List Item} {o : Oper} {v : Value} {a : Act} (hi : ops[i]? = some o) (hy : YieldsO P ops n B L o v a)
    {K : Act → World → Prop} {w : World} (hO : Own n B w L) (h : ∀ w', Below w.heap.size w w' → K (a.put o.dst v) w') : wpOp P ops Q i K a w := by
  unfold Go.wpOp
  simp only [hi]
  rcases hy with ⟨hw, hv⟩ | ⟨hw, rfl⟩
  · simp only [hw, if_true, Oper.wp]
    have hv := hv w hO
    refine .inl ?_
    generalize (execOp a.eval o).run P w = r at hv
    cases r with
    | ok nx w' =>
      cases nx <;> simp only [Out, Oper.upon] at hv ⊢
      case value u => obtain ⟨rfl, hb⟩ := hv; exact h _ hb
      case skip => obtain ⟨rfl, hb⟩ := hv; exact h _ hb
      case enter f args => exact Calls.mono hv.2 fun e w'' ⟨he, hb⟩ => by subst he; exact h _ (btr hv.1 hb)
      case row row args => exact Rows.mono hv.2 fun u w'' ⟨he, hb⟩ => by subst he; exact h _ (btr hv.1 hb)
    | halt x w' => exact (show False from by cases x <;> exact hv).elim
  · simp only [hw, Bool.false_eq_true, if_false]; exact h w (Below.refl _ _)

/-- wpOp_putIf's text for YieldsO. -/
theorem wpOp_putO {j : Nat} {L : List Item} {oi oj : Oper} {v : Value} (hj : ops[j]? = some oj) (hap : oi.apart ops oj = true)
    (hsi : ∀ cs b, oi.op ≠ .select cs b) (hsj : ∀ cs b, oj.op ≠ .select cs b)
    (hQ : ∀ c a w, Q (.panic c) (a.put oi.dst v) w → Q (.panic c) a w) {K : Act → World → Prop} {a : Act} {w : World}
    (hy : YieldsO P ops n B L oi v a) (h : wpOp P ops Q j K (a.put oi.dst v) w) :
    wpOp P ops Q j (fun a' w' => YieldsO P ops n B L oi v a' ∧ K (a'.put oi.dst v) w') a w := by
  obtain ⟨h1, h2, h3⟩ := Oper.apart_spec hap
  have keep : ∀ (a : Act), YieldsO P ops n B L oi v a → ∀ u, YieldsO P ops n B L oi v (a.put oj.dst u) := fun a hy u =>
    hy.of_same (execOp_put oi hsi a oj.dst u h3) (wanted_put oi a oj.dst u h3)
  have keepD : ∀ d, YieldsO P ops n B L oi v { a with defers := d :: a.defers } := fun d => hy.of_same rfl rfl
  unfold wpOp at *
  simp only [hj] at *
  rw [wanted_put oj a oi.dst v h1] at h
  split
  · rename_i hw
    simp only [hw, if_true] at h
    rcases h with h | ⟨hasks, hlets⟩
    case inr => exact .inr ⟨by unfold Oper.asks at *; rw [execOp_put oj hsj a oi.dst v h1] at hasks; exact hasks, hlets⟩
    refine .inl ?_
    unfold Oper.wp at *
    rw [execOp_put oj hsj a oi.dst v h1] at h
    generalize (execOp a.eval oj).run P w = r at *
    cases r with
    | ok nx w' =>
      cases nx <;> simp only [Oper.upon] at h ⊢
      case value u => exact ⟨keep a hy u, by rw [← Act.put_comm a v u h2]; exact h⟩
      case skip => exact ⟨keep a hy _, by rw [← Act.put_comm a v undef h2]; exact h⟩
      case defer d =>
        refine ⟨keep _ (keepD d) _, ?_⟩
        rw [← Act.put_comm _ v undef h2, ← Act.put_defers]
        exact h
      case enter f args =>
        refine Calls.mono h fun e w'' he => ?_
        cases e with
        | returned u => exact ⟨keep a hy u, by rw [← Act.put_comm a v u h2]; exact he⟩
        | panicked c => exact hQ _ _ _ he
        | outgrown => exact he
      case row row args => exact Rows.mono h fun u w'' he => ⟨keep a hy u, by rw [← Act.put_comm a v u h2]; exact he⟩
    | halt x w' =>
      cases x <;> simp only [Oper.upon] at h ⊢
      case panic u => exact hQ _ _ _ h
  · rename_i hw
    simp only [hw] at h
    exact ⟨keep a hy _, by rw [← Act.put_comm a v undef h2]; exact h⟩

/-- One operation, carried out wherever L is owned and X holds: it leads on to some L', X'. Those named in M may write what is owned. -/
def StepO (P : Program) (ops : Array Oper) (Q : Exit → Act → World → Prop) (n : Nat) (B : World → Prop) (M : List Nat) (i : Nat) (N : Act → List Item → (World → Prop) → Prop) (a : Act) (L : List Item) (X : World → Prop) : Prop :=
  ∀ w, Own n B w L → X w → wpOp P ops Q i (fun a' w' => ∃ L' X', Own n B w' L' ∧ X' w' ∧ XStab X' ∧ (M.contains i = false → ∀ w, Own n B w L' → Own n B w L) ∧ N a' L' X') a w

/-- Whatever order is picked from here on. -/
def Sim (P : Program) (md : Region.Mode) (ops : Array Oper) (Q : Exit → Act → World → Prop) (n : Nat) (B : World → Prop) (M : List Nat) : Nat → Array Bool → Act → List Item → (World → Prop) → Prop
  | 0, listed, a, L, X => Region.ready md ops listed = [] ∧ ∀ w, Own n B w L → X w → Q .normal a w
  | fuel + 1, listed, a, L, X =>
    (Region.ready md ops listed = [] → ∀ w, Own n B w L → X w → Q .normal a w) ∧
    ∀ i ∈ Region.ready md ops listed, StepO P ops Q n B M i (Sim P md ops Q n B M fuel (listed.setIfInBounds i true)) a L X

theorem wpAny_of_sim : ∀ (fuel : Nat) (listed : Array Bool) (a : Act) (L : List Item) (X : World → Prop) (w : World), Own n B w L → X w →
    Sim P md ops Q n B M fuel listed a L X → wpAny P md ops Q fuel listed a w
  | 0, _, _, _, _, w, hO, hX, h => ⟨h.1, h.2 w hO hX⟩
  | fuel + 1, _, _, _, _, w, hO, hX, h => ⟨fun hr => h.1 hr w hO hX, fun i hi => wpOp_mono (fun a' w' ⟨L', X', hO', hX', _, _, hN⟩ => wpAny_of_sim fuel _ a' L' X' w' hO' hX' hN) (h.2 i hi w hO hX)⟩

/-- No operation that may come before number i writes what is owned. -/
def Region.tame (md : Region.Mode) (ops : Array Oper) (M : List Nat) (listed : Array Bool) (i : Nat) : Bool :=
  (List.range ops.size).all fun j => j == i || listed.getD j true || !M.contains j || match ops[j]? with
      | some oj => oj.after.any (fun e => Region.binds md e && e.on == i)
      | none => true

theorem Region.tame_spec {i : Nat} {listed : Array Bool} (h : Region.tame md ops M listed i = true) (j : Nat) (oj : Oper)
    (hj : ops[j]? = some oj) (hne : j ≠ i) (hun : listed.getD j true = false) (hno : ∀ e ∈ oj.after, Region.binds md e = true → e.on ≠ i) : M.contains j = false := by
  simp only [Region.tame, List.all_eq_true, List.mem_range] at h
  have h1 := h j (Array.getElem?_eq_some_iff.1 hj).1
  simp only [hj, Bool.or_eq_true, beq_iff_eq, hne, false_or, hun, Bool.false_eq_true, Bool.not_eq_true'] at h1
  rcases h1 with h1 | h1
  · exact h1
  · obtain ⟨e, he, hb⟩ := Array.any_eq_true'.1 h1
    simp only [Bool.and_eq_true, beq_iff_eq] at hb
    exact absurd hb.2 (hno e he hb.1)

theorem Sim.first {i : Nat} {oi : Oper} {v : Value} (hi : ops[i]? = some oi) (hsel : ∀ (j : Nat) (o : Oper) cs b, ops[j]? = some o → o.op ≠ .select cs b)
    (hQ : ∀ c a w, Q (.panic c) (a.put oi.dst v) w → Q (.panic c) a w) :
    ∀ (fuel : Nat) (listed : Array Bool) (a : Act) (L : List Item) (X : World → Prop),
      (∀ j oj, ops[j]? = some oj → j ≠ i → listed.getD j true = false → (∀ e ∈ oj.after, Region.binds md e = true → e.on ≠ i) → oi.apart ops oj = true) →
      (∀ j oj, ops[j]? = some oj → j ≠ i → listed.getD j true = false → (∀ e ∈ oj.after, Region.binds md e = true → e.on ≠ i) → M.contains j = false) →
      i ∈ Region.ready md ops listed → YieldsO P ops n B L oi v a → XStab X →
      Sim P md ops Q n B M fuel (listed.setIfInBounds i true) (a.put oi.dst v) L X → Sim P md ops Q n B M (fuel + 1) listed a L X := by
  intro fuel
  induction fuel with
  | zero =>
    intro listed a L X _ _ hr hy hX H
    refine ⟨fun h => (by rw [h] at hr; cases hr), fun j hj => ?_⟩
    by_cases hji : j = i
    · subst hji
      exact fun w hO hx => hy.wpOp hi hO fun w' hb => ⟨L, X, hO.below hb, hX _ _ hx hb, hX, fun _ _ h => h, H⟩
    · have := ready_mono hj hji
      rw [H.1] at this
      cases this
  | succ fuel ih =>
    intro listed a L X hfree htame hr hy hX H
    refine ⟨fun h => (by rw [h] at hr; cases hr), fun j hj => ?_⟩
    by_cases hji : j = i
    · subst hji
      exact fun w hO hx => hy.wpOp hi hO fun w' hb => ⟨L, X, hO.below hb, hX _ _ hx hb, hX, fun _ _ h => h, H⟩
    · intro w hO hx
      have h1 := H.2 j (ready_mono hj hji) w hO hx
      obtain ⟨hjun, oj, hoj, hall⟩ := mem_ready.1 hj
      have hnot : ∀ e ∈ oj.after, Region.binds md e = true → e.on ≠ i := fun e he hb heq => by
        have h1 := hall e he hb
        have h0 := (mem_ready.1 hr).1
        rw [heq] at h1
        rcases Nat.lt_or_ge i listed.size with h' | h'
        · simp [h'] at h0 h1; rw [h0] at h1; cases h1
        · simp [Array.getElem?_eq_none h'] at h1
      have h2 := wpOp_putO hoj (hfree j oj hoj hji hjun hnot) (fun cs b => hsel i oi cs b hi) (fun cs b => hsel j oj cs b hoj) hQ hy h1
      have hM := htame j oj hoj hji hjun hnot
      have up : ∀ k, (listed.setIfInBounds j true).getD k true = false → listed.getD k true = false := fun k hun => by
        by_cases hjk : j = k
        · subst hjk; exact hjun
        · rw [getD_set_ne true hjk] at hun; exact hun
      refine wpOp_mono (fun a' w' ⟨hy', L', X', hO', hX', hXS, he, hN⟩ => ⟨L', X', hO', hX', hXS, he,
        ih (listed.setIfInBounds j true) a' L' X' (fun k ok hk hki hun hno => hfree k ok hk hki (up k hun) hno) (fun k ok hk hki hun hno => htame k ok hk hki (up k hun) hno) (ready_mono hr (Ne.symm hji)) (hy'.ext (he hM)) hXS ?_⟩) h2
      rw [Array.setIfInBounds_comm _ _ hji]
      exact hN

/-- Take number i first. -/
theorem Sim.take {i : Nat} {oi : Oper} {d : Option Tmp} {v : Value} {fuel : Nat} {listed : Array Bool} {a : Act} {L : List Item} {X : World → Prop} (hi : ops[i]? = some oi) (hd : oi.dst = d)
    (hs : Region.noSelect ops = true) (hf : Region.free md ops listed i = true) (ht : Region.tame md ops M listed i = true) (hr : (Region.ready md ops listed).contains i = true)
    (hQ : ∀ c a w, Q (.panic c) (a.put oi.dst v) w → Q (.panic c) a w) (hX : XStab X) (hy : YieldsO P ops n B L oi v a)
    (h : Sim P md ops Q n B M fuel (listed.setIfInBounds i true) (a.put d v) L X) : Sim P md ops Q n B M (fuel + 1) listed a L X := by
  subst hd
  exact Sim.first hi (Region.noSelect_spec hs) hQ fuel listed a L X (Region.free_spec hi hf) (Region.tame_spec ht) (by simpa using hr) hy hX h

/-- An operation that touches no memory: it may be taken first whatever the others write. -/
theorem Sim.firstP {i : Nat} {oi : Oper} {v : Value} (hi : ops[i]? = some oi) (hsel : ∀ (j : Nat) (o : Oper) cs b, ops[j]? = some o → o.op ≠ .select cs b)
    (hQ : ∀ c a w, Q (.panic c) (a.put oi.dst v) w → Q (.panic c) a w) :
    ∀ (fuel : Nat) (listed : Array Bool) (a : Act) (L : List Item) (X : World → Prop),
      (∀ j oj, ops[j]? = some oj → j ≠ i → listed.getD j true = false → (∀ e ∈ oj.after, Region.binds md e = true → e.on ≠ i) → oi.apart ops oj = true) →
      i ∈ Region.ready md ops listed → Yields P ops oi v a → XStab X →
      Sim P md ops Q n B M fuel (listed.setIfInBounds i true) (a.put oi.dst v) L X → Sim P md ops Q n B M (fuel + 1) listed a L X := by
  intro fuel
  induction fuel with
  | zero =>
    intro listed a L X _ hr hy hX H
    refine ⟨fun h => (by rw [h] at hr; cases hr), fun j hj => ?_⟩
    by_cases hji : j = i
    · subst hji
      exact fun w hO hx => hy.wpOp hi ⟨L, X, hO, hx, hX, fun _ _ h => h, H⟩
    · have := ready_mono hj hji
      rw [H.1] at this
      cases this
  | succ fuel ih =>
    intro listed a L X hfree hr hy hX H
    refine ⟨fun h => (by rw [h] at hr; cases hr), fun j hj => ?_⟩
    by_cases hji : j = i
    · subst hji
      exact fun w hO hx => hy.wpOp hi ⟨L, X, hO, hx, hX, fun _ _ h => h, H⟩
    · intro w hO hx
      have h1 := H.2 j (ready_mono hj hji) w hO hx
      obtain ⟨hjun, oj, hoj, hall⟩ := mem_ready.1 hj
      have hnot : ∀ e ∈ oj.after, Region.binds md e = true → e.on ≠ i := fun e he hb heq => by
        have h1 := hall e he hb
        have h0 := (mem_ready.1 hr).1
        rw [heq] at h1
        rcases Nat.lt_or_ge i listed.size with h' | h'
        · simp [h'] at h0 h1; rw [h0] at h1; cases h1
        · simp [Array.getElem?_eq_none h'] at h1
      have h2 := wpOp_put hoj (hfree j oj hoj hji hjun hnot) (fun cs b => hsel i oi cs b hi) (fun cs b => hsel j oj cs b hoj) hQ hy h1
      have up : ∀ k, (listed.setIfInBounds j true).getD k true = false → listed.getD k true = false := fun k hun => by
        by_cases hjk : j = k
        · subst hjk; exact hjun
        · rw [getD_set_ne true hjk] at hun; exact hun
      refine wpOp_mono (fun a' w' ⟨hy', L', X', hO', hX', hXS, he, hN⟩ => ⟨L', X', hO', hX', hXS, he,
        ih (listed.setIfInBounds j true) a' L' X' (fun k ok hk hki hun hno => hfree k ok hk hki (up k hun) hno) (ready_mono hr (Ne.symm hji)) hy' hXS ?_⟩) h2
      rw [Array.setIfInBounds_comm _ _ hji]
      exact hN

theorem Sim.takeP {i : Nat} {oi : Oper} {d : Option Tmp} {v : Value} {fuel : Nat} {listed : Array Bool} {a : Act} {L : List Item} {X : World → Prop} (hi : ops[i]? = some oi) (hd : oi.dst = d)
    (hs : Region.noSelect ops = true) (hf : Region.free md ops listed i = true) (hr : (Region.ready md ops listed).contains i = true)
    (hQ : ∀ c a w, Q (.panic c) (a.put oi.dst v) w → Q (.panic c) a w) (hX : XStab X) (hy : Yields P ops oi v a)
    (h : Sim P md ops Q n B M fuel (listed.setIfInBounds i true) (a.put d v) L X) : Sim P md ops Q n B M (fuel + 1) listed a L X := by
  subst hd
  exact Sim.firstP hi (Region.noSelect_spec hs) hQ fuel listed a L X (Region.free_spec hi hf) (by simpa using hr) hy hX h

/-- Number i alone may come up. -/
theorem Sim.one {i : Nat} {oi : Oper} {fuel : Nat} {listed : Array Bool} {a : Act} {L : List Item} {X : World → Prop} (hr : Region.ready md ops listed = [i]) (hi : ops[i]? = some oi) (hw : Region.wanted oi (yielded ops a.tmps) = true)
    (h : ∀ w, Own n B w L → X w → oi.wp P a w (fun a' w' => ∃ L' X', Own n B w' L' ∧ X' w' ∧ XStab X' ∧ (M.contains i = false → ∀ w, Own n B w L' → Own n B w L) ∧ Sim P md ops Q n B M fuel (listed.setIfInBounds i true) a' L' X') Q) : Sim P md ops Q n B M (fuel + 1) listed a L X := by
  refine ⟨fun h0 => (by rw [hr] at h0; cases h0), fun j hj => ?_⟩
  rw [hr] at hj
  obtain rfl := List.mem_singleton.1 hj
  intro w hO hx
  unfold wpOp
  simp only [hi, hw, if_true]
  exact .inl (h w hO hx)

/-- The same, the way on kept from the walk's simp. -/
theorem Sim.one' {i : Nat} {oi : Oper} {fuel : Nat} {listed : Array Bool} {a : Act} {L : List Item} {X : World → Prop} (hr : Region.ready md ops listed = [i]) (hi : ops[i]? = some oi) (hw : Region.wanted oi (yielded ops a.tmps) = true)
    (h : ∀ w, Own n B w L → X w → ∀ K : Act → World → Prop, (∀ a' w' L' X', Own n B w' L' → X' w' → XStab X' → (M.contains i = false → ∀ w, Own n B w L' → Own n B w L) → Sim P md ops Q n B M fuel (listed.setIfInBounds i true) a' L' X' → K a' w') → oi.wp P a w K Q) : Sim P md ops Q n B M (fuel + 1) listed a L X :=
  Sim.one hr hi hw fun w hO hX => h w hO hX _ fun _ _ L' X' h1 h2 h3 h4 h5 => ⟨L', X', h1, h2, h3, h4, h5⟩

/-- Each of those that may come up. -/
def AllS (P : Program) (md : Region.Mode) (ops : Array Oper) (Q : Exit → Act → World → Prop) (n : Nat) (B : World → Prop) (M : List Nat) (fuel : Nat) (listed : Array Bool) (a : Act) (L : List Item) (X : World → Prop) (rs : List Nat) : Prop :=
  ∀ i ∈ rs, StepO P ops Q n B M i (Sim P md ops Q n B M fuel (listed.setIfInBounds i true)) a L X
theorem AllS.nil {fuel : Nat} {listed : Array Bool} {a : Act} {L : List Item} {X : World → Prop} : AllS P md ops Q n B M fuel listed a L X [] := fun _ h => by cases h
theorem AllS.cons {i : Nat} {oi : Oper} {rs : List Nat} {fuel : Nat} {listed : Array Bool} {a : Act} {L : List Item} {X : World → Prop} (hi : ops[i]? = some oi) (hw : Region.wanted oi (yielded ops a.tmps) = true)
    (h : ∀ w, Own n B w L → X w → ∀ K : Act → World → Prop, (∀ a' w' L' X', Own n B w' L' → X' w' → XStab X' → (M.contains i = false → ∀ w, Own n B w L' → Own n B w L) → Sim P md ops Q n B M fuel (listed.setIfInBounds i true) a' L' X' → K a' w') → oi.wp P a w K Q)
    (hs : AllS P md ops Q n B M fuel listed a L X rs) : AllS P md ops Q n B M fuel listed a L X (i :: rs) := fun j hj => by
  rcases List.mem_cons.1 hj with rfl | hj
  · intro w hO hx
    unfold wpOp
    simp only [hi, hw, if_true]
    exact .inl (h w hO hx _ fun _ _ L' X' h1 h2 h3 h4 h5 => ⟨L', X', h1, h2, h3, h4, h5⟩)
  · exact hs j hj
theorem Sim.many {rs : List Nat} {fuel : Nat} {listed : Array Bool} {a : Act} {L : List Item} {X : World → Prop} (hr : Region.ready md ops listed = rs) (hne : rs ≠ [])
    (h : AllS P md ops Q n B M fuel listed a L X rs) : Sim P md ops Q n B M (fuel + 1) listed a L X := ⟨fun h0 => absurd (hr ▸ h0) hne, hr ▸ h⟩

/-- All have come up. -/
theorem Sim.done {listed : Array Bool} {a : Act} {L : List Item} {X : World → Prop} (hr : Region.ready md ops listed = []) (h : ∀ w, Own n B w L → X w → Q .normal a w) : ∀ fuel, Sim P md ops Q n B M fuel listed a L X
  | 0 => ⟨hr, h⟩
  | _ + 1 => ⟨fun _ => h, by rw [hr]; simp⟩

/-- The beginning. -/
theorem region_own {id : Nat} {a : Act} {w : World} {L : List Item} {X : World → Prop} (M : List Nat) (hm : P.follows .mixedOrders = true) (hO : Own n B w L) (hX : X w) (hS : XStab X)
    (h : Sim P .any ops Q n B M ops.size (Array.replicate ops.size false) a L X) : (Code.region id ops true).wp P Q a w :=
  wp_region_any hm (wpAny_of_sim _ _ _ _ _ _ hO.drew (hS _ _ hX (below_drew1 _)) h)

theorem XStab.true : XStab fun _ => True := fun _ _ _ _ => trivial
/-- The operation has run. -/
theorem Out.same {v : Value} {w : World} {r : Result Next} (h : r = .ok (.value v) w) : Out P v w r := by subst h; exact ⟨rfl, Below.refl _ _⟩
theorem Out.call {v : Value} {w : World} {r : Result Next} {f : FuncId} {args : Array Value} (h : r = .ok (.enter f args) w) (hc : Calls P f args w fun e w'' => e = .returned v ∧ Below w.heap.size w w'') : Out P v w r := by subst h; exact ⟨Below.refl _ _, hc⟩
end

/- make([]T, n) among what a call owns; elements laid one behind the other into a row that was made. No program in it. -/
open Go.RowKit

/-- 'make([]T, n)': the row stands at the head of what is owned. -/
theorem wpList_make_item {P : Program} {ops : Array Oper} {rest : List Oper} {o : Oper} {a : Act} {Q : Exit → Act → World → Prop} {n : Nat} {B : World → Prop} {w : World} {L : List Item}
    (hg : o.guard = none) (l c : Operand) (t : TypeId) (hop : o.op = Op.makeSlice t l c) (e : TypeId) (i : TypeInfo) (z : Value) (size bytes : Nat) (h1 : P.underlying t = some (.slice e)) (h2 : P.info? e = some i) (h3 : i.zero = some z) (h4 : i.size = size) (h5 : i.bytes = bytes)
    (kl kc : IntKind) (x y : Int) (k : Nat) (hl : a.eval l = .int kl x) (hc : a.eval c = .int kc y) (hx : x = (k : Int)) (hy : y = (k : Int)) (b2 : bytes * k ≤ 281474976710656) (b3 : k ≤ maxLen) (hO : Own n B w L)
    (hK : ∀ q w', Own n B w' (.row e size (.slice (some ⟨q, 0, none⟩) k k) k (madeCells z.cells (k * size)).toList :: L) → wpList P ops Q rest (a.put o.dst (.slice (some ⟨q, 0, none⟩) k k)) w') : wpList P ops Q (o :: rest) a w := by
  subst h5
  refine wpList_make_full w hg l c t hop w.heap.size e i z size h1 h2 h3 h4 kl kc x y k hl hc hx hy b2 b3 (Nat.le_refl _) fun w' hr hgr => hK _ w' ?_
  exact hO.addRow ⟨hgr.os, hgr.tape, hgr.output, hgr.size, fun j hj => hgr.block j hj (by simp)⟩ hr

/-- Three cells laid into a row. -/
theorem set3 {α : Type} {a b c a' b' c' : α} {zs : List α} {i : Nat} : ∀ {xs : List α}, xs.length = i → (((xs ++ a :: b :: c :: zs).set i a').set (i + 1) b').set (i + 2) c' = xs ++ [a', b', c'] ++ zs := by
  intro xs h
  subst h
  simp [List.set_append]

section
variable {n : Nat} {B : World → Prop} {w : World} {L : List Item} {e : TypeId} {size q k cap : Nat} {xs : List Value}

/-- A cell of the row at the head, and that it may be written. -/
theorem Own.row_cell (h : Own n B w (.row e size (.slice (some ⟨q, 0, none⟩) k cap) k xs :: L)) {i : Nat} {u : Value} (hu : xs[i]? = some u) : w.cell? ⟨q, i, none⟩ = some u := by
  have := World.ownsRow.cells (h.1.1 : w.ownsRow n e size _ k xs) (g := q) rfl i u hu
  rwa [add_flat] at this
theorem Own.row_free (h : Own n B w (.row e size (.slice (some ⟨q, 0, none⟩) k cap) k xs :: L)) (i : Nat) : w.frozen? ⟨q, i, none⟩ = false := by
  rcases (h.1.1 : w.ownsRow n e size _ k xs).2 with ⟨h2, _⟩ | ⟨g', c', cur, h3, h4, h5, _⟩
  · cases h2
  · cases h3
    simp [World.frozen?, h5]
/-- A cell of it is set. -/
theorem Own.row_set (h : Own n B w (.row e size (.slice (some ⟨q, 0, none⟩) k cap) k xs :: L)) (i : Nat) (u : Value) : Own n B (w.setCell ⟨q, i, none⟩ u) (.row e size (.slice (some ⟨q, 0, none⟩) k cap) k (xs.set i u) :: L) := by
  have hq : n ≤ q := (Item.Holds.lt (x := .row _ _ _ _ _) h.1.1 q rfl).1
  have h1 := Own.set_at (i := i) (u := u) hq h
  have h2 : upd L q i u = L := by
    unfold upd
    have : ∀ x ∈ L, updI q i u x = x := fun x hx => by
      have ha := (h.1.2 x hx).symm.to q rfl
      cases x <;> simp only [updI, Item.at?] at *
      · rename_i b vs
        rw [if_neg (fun e => ha (by rw [e]))]
      · rw [if_neg ha]
    rw [List.map_congr_left this, List.map_id']
  have h3 : upd (.row e size (.slice (some ⟨q, 0, none⟩) k cap) k xs :: L) q i u = .row e size (.slice (some ⟨q, 0, none⟩) k cap) k (xs.set i u) :: upd L q i u := by
    simp [upd, updI, Value.ownBlock]
  rw [h3, h2] at h1
  exact h1
end

theorem Own.row_open {n : Nat} {B : World → Prop} {w : World} {L : List Item} {e : TypeId} {size k : Nat} {v : Value} {xs : List Value} (h : Own n B w (.row e size v k xs :: L)) (hk : 0 < k) : ∃ q cap, v = .slice (some ⟨q, 0, none⟩) k cap ∧ k ≤ cap ∧ cap ≤ maxLen := by
  rcases (h.1.1 : w.ownsRow n e size v k xs).2 with ⟨_, h2⟩ | ⟨q, cap, cur, h3, _, _, h6, h7, _⟩
  · omega
  · exact ⟨q, cap, h3, h6, h7⟩

/- What make lays, whatever the element; cells of a slice at a known place. No program in it. -/
open Go.RowKit

theorem flat_rep {α : Type} (l : List α) (hl : 0 < l.length) : ∀ (n j : Nat), j < n * l.length → ((List.replicate n l).flatten)[j]? = l[j % l.length]?
  | 0, j, h => by simp at h
  | n + 1, j, h => by
    rw [List.replicate_succ, List.flatten_cons]
    by_cases hj : j < l.length
    · rw [List.getElem?_append_left hj, Nat.mod_eq_of_lt hj]
    · rw [List.getElem?_append_right (by omega), flat_rep l hl n (j - l.length) (by rw [Nat.add_mul] at h; omega), ← Nat.mod_eq_sub_mod (by omega)]
theorem made_rep (z : Array Value) (hz : 0 < z.size) (n : Nat) : (madeCells z (n * z.size)).toList = (List.replicate n z.toList).flatten := by
  apply List.ext_getElem?
  intro j
  simp only [madeCells, Array.toList_map, Array.toList_range, List.getElem?_map]
  by_cases hj : j < n * z.size
  · have hm : j % z.size < z.size := Nat.mod_lt _ hz
    rw [List.getElem?_range hj, flat_rep z.toList (by simpa using hz) n j (by simpa using hj)]
    simp [hm]
  · rw [List.getElem?_eq_none (by simp; omega), List.getElem?_eq_none (by simp [List.length_flatten, List.map_replicate, List.sum_replicate_nat]; omega)]
    rfl

/-- A slice opened: its length; and where there is an element, its place. -/
theorem SlAt.open {w : World} {v : Value} {n size : Nat} {xs : List Value} (h : SlAt w v n size xs) : ∃ A cap, v = .slice A n cap ∧ (n : Int) ≤ 9223372036854775807 ∧ (0 < n → ∃ b off, A = some ⟨b, off, none⟩ ∧ n ≤ cap ∧ cap ≤ 9223372036854775807 ∧ b < w.heap.size) := by
  rcases h.2 with ⟨rfl, rfl⟩ | ⟨b, off, cap, rfl, h1, h2, h3, _⟩
  · exact ⟨none, 0, rfl, by omega, fun h => by omega⟩
  · unfold maxLen at h2
    exact ⟨_, cap, rfl, by omega, fun _ => ⟨b, off, rfl, h1, by omega, h3⟩⟩
theorem SlAt.cellAt {w : World} {b off cap n size : Nat} {xs : List Value} (h : SlAt w (.slice (some ⟨b, off, none⟩) n cap) n size xs) {j : Nat} {u : Value} (hj : xs[j]? = some u) : w.cell? ⟨b, off + j, none⟩ = some u := by
  rcases h.2 with ⟨h1, _⟩ | ⟨b', off', cap', h1, _, _, _, h2⟩
  · cases h1
  · cases h1
    exact h2 j u hj

/- A slice that is nil, and make([]T, 0, n), among what a call owns. No program in it. -/
open Go.RowKit

/-- A slice that is nil is a row without elements. -/
theorem Own.nilRow {n : Nat} {B : World → Prop} {w : World} {L : List Item} (e : TypeId) (size : Nat) (h : Own n B w L) : Own n B w (.row e size (.slice none 0 0) 0 [] :: L) :=
  h.addRow (Below.refl _ _) ⟨by simp, .inl ⟨rfl, rfl⟩⟩
/-- 'make([]T, 0, n)': an empty row with room for n stands at the head of what is owned. -/
theorem wpList_make_cap {P : Program} {ops : Array Oper} {rest : List Oper} {o : Oper} {a : Act} {Q : Exit → Act → World → Prop} {n : Nat} {B : World → Prop} {w : World} {L : List Item}
    (hg : o.guard = none) (l c : Operand) (t : TypeId) (hop : o.op = Op.makeSlice t l c) (e : TypeId) (i : TypeInfo) (z : Value) (size bytes : Nat) (h1 : P.underlying t = some (.slice e)) (h2 : P.info? e = some i) (h3 : i.zero = some z) (h4 : i.size = size) (h5 : i.bytes = bytes)
    (kl kc : IntKind) (y : Int) (k : Nat) (hl : a.eval l = .int kl 0) (hc : a.eval c = .int kc y) (hy : y = (k : Int)) (b2 : bytes * k ≤ 281474976710656) (b3 : k ≤ maxLen) (hO : Own n B w L)
    (hK : ∀ q w', Own n B w' (.row e size (.slice (some ⟨q, 0, none⟩) 0 k) 0 [] :: L) → wpList P ops Q rest (a.put o.dst (.slice (some ⟨q, 0, none⟩) 0 k)) w') : wpList P ops Q (o :: rest) a w := by
  subst h5
  refine wpList_make_own w hg l c t hop w.heap.size e i z size h1 h2 h3 h4 kl kc y k hl hc hy b2 b3 (Nat.le_refl _) fun w' hr hgr => hK _ w' ?_
  exact hO.addRow ⟨hgr.os, hgr.tape, hgr.output, hgr.size, fun j hj => hgr.block j hj (by simp)⟩ hr

/- What a call owns, in part; what is owned, at an operation. No program in it. -/
open Go.RowKit

/-- Some of what is owned, in its order. -/
theorem Own.sub {n : Nat} {B : World → Prop} {w : World} : ∀ {L' L : List Item}, L'.Sublist L → Own n B w L → Own n B w L'
  | _, _, .slnil, h => h
  | _, _, .cons _ s, h => Own.sub s h.2
  | _, _, .cons_cons _ s, h => ⟨⟨h.1.1, fun x hx => h.1.2 x (s.subset hx)⟩, Own.sub s h.2⟩
theorem Own.cast {n : Nat} {B : World → Prop} {w : World} {L L' : List Item} (h : Own n B w L) (e : L = L') : Own n B w L' := e ▸ h
theorem own_list {P : Program} {ops : Array Oper} {rest : List Oper} {Q : Exit → Act → World → Prop} {a : Act} {n : Nat} {B : World → Prop} {W : World} {L L0 : List Item} {W0 : World}
    (_ : Own n B W0 L0) (hO : Own n B W L) (k : Own n B W L → wpList P ops Q rest a W) : wpList P ops Q rest a W := k hO

/-- A call that hands back a slice of its own and a flag. -/
def RowOutB (e : TypeId) (size k : Nat) (xs : List Value) (b : Bool) (w : World) (e' : Ending) (w' : World) : Prop := ∃ v, e' = .returned (.tuple #[v, .bool b]) ∧ w'.ownsRow w.heap.size e size v k xs ∧ Below w.heap.size w w'
theorem RowOutB.mk {e : TypeId} {size k : Nat} {xs : List Value} {b : Bool} {w w' : World} {v : Value} {L : List Item} (hO : Own w.heap.size (Below w.heap.size w) w' (.row e size v k xs :: L)) : RowOutB e size k xs b w (.returned (.tuple #[v, .bool b])) w' := ⟨v, rfl, hO.1.1, hO.base⟩
theorem own_call_rowB {P : Program} {f : FuncId} {args : Array Value} {n : Nat} {B : World → Prop} {W : World} {L : List Item} {e : TypeId} {size k : Nat} {xs : List Value} {b : Bool} {K : Ending → World → Prop}
    (hO : Own n B W L) (h : B W → Calls P f args W (RowOutB e size k xs b W)) (k' : ∀ v w1, Own n B w1 (.row e size v k xs :: L) → K (.returned (.tuple #[v, .bool b])) w1) : Calls P f args W K :=
  (h hO.base).mono fun e' w' ⟨v, he, hr, hb⟩ => by subst he; exact k' v w' (hO.addRow hb hr)

/- append(s, v...) among what a call owns. No program in it. -/
open Go.RowKit

theorem add_any (b off j : Nat) : (⟨b, off, none⟩ : Addr).add j = ⟨b, off + j, none⟩ := by unfold Addr.add; split <;> simp_all

/-- 'out = append(out, v...)': the elements lie somewhere in memory. -/
theorem wpList_append_slice {P : Program} {ops : Array Oper} {rest : List Oper} {o : Oper} {a : Act} {Q : Exit → Act → World → Prop} {n : Nat} {B : World → Prop} {w : World} {L : List Item} {v xv : Value} {k m : Nat} {xs news : List Value}
    (hgd : o.guard = none) (s x : Operand) (t : TypeId) (ho : o.op = .call { callee := .builtin .append, args := #[s, x], argTypes := #[t, t] })
    (e : TypeId) (i : TypeInfo) (z : Value) (size bytes : Nat) (ht : P.underlying t = some (.slice e)) (hi : P.info? e = some i) (hz : i.zero = some z)
    (hsize : i.size = size) (hby : i.bytes = bytes) (hzs : z.cells.size = size) (hsz : 0 < size)
    (hs : a.eval s = v) (hx : a.eval x = xv) (hO : Own n B w (.row e size v k xs :: L)) (hv : SlAt w xv m size news) (h1 : ∀ u ∈ news, u.oneCell' = true)
    (h63 : k + m ≤ maxLen) (hbytes : (k + m) * bytes ≤ 140737488355328)
    (h : ∀ v' w', Own n B w' (.row e size v' (k + m) (xs ++ news) :: L) → wpList P ops Q rest (a.put o.dst v') w') : wpList P ops Q (o :: rest) a w := by
  refine wpList_plain hgd fun K hK => ?_
  have hown : w.ownsRow n e size v k xs := hO.1.1
  rcases hv.2 with ⟨rfl, rfl⟩ | ⟨b, off, c, rfl, _, _, _, hc⟩
  · have hr := run_append_owned_none (P := P) (w := w) n t o.type e i size ht hi v k xs hown
    have hn : news = [] := List.eq_nil_of_length_eq_zero (by simpa using hv.1)
    subst hn
    unfold Oper.wp execOp
    simp only [ho, resolve, invoke, builtin, Sem.run_bind, Sem.run_pure, Result.andThen_ok, List.map_toArray, List.map_cons, List.map_nil, hs, hx, hr]
    exact hK _ _ (h v w (by simpa using hO))
  · obtain ⟨v', w', hr, h2, h3, h4, h5⟩ := run_append_own_at (P := P) w n t o.type e i z size bytes ht hi hz hsize hby hzs hsz v k xs hown ⟨b, off, none⟩ m c news hv.1 (fun j u hj => by rw [add_any]; exact hc j u hj) h1 h63 hbytes hO.low
    unfold Oper.wp execOp
    simp only [ho, resolve, invoke, builtin, Sem.run_bind, Sem.run_pure, Result.andThen_ok, List.map_toArray, List.map_cons, List.map_nil, hs, hx, hr]
    exact hK _ _ (h v' w' (hO.regrown h3 h2 h5))

/- make([]T, k, m) and copy(out, v) among what a call owns. No program in it. -/
open Go.RowKit

/-- 'make([]T, k, m)': a row of k elements with room for m stands at the head of what is owned. -/
theorem wpList_make_room {P : Program} {ops : Array Oper} {rest : List Oper} {o : Oper} {a : Act} {Q : Exit → Act → World → Prop} {n : Nat} {B : World → Prop} {w : World} {L : List Item}
    (hg : o.guard = none) (l c : Operand) (t : TypeId) (hop : o.op = Op.makeSlice t l c) (e : TypeId) (i : TypeInfo) (z : Value) (size bytes : Nat) (h1 : P.underlying t = some (.slice e)) (h2 : P.info? e = some i) (h3 : i.zero = some z) (h4 : i.size = size) (h5 : i.bytes = bytes)
    (kl kc : IntKind) (x y : Int) (k m : Nat) (hl : a.eval l = .int kl x) (hc : a.eval c = .int kc y) (hx : x = (k : Int)) (hy : y = (m : Int)) (hkm : k ≤ m) (b2 : bytes * m ≤ 281474976710656) (b3 : m ≤ maxLen) (hO : Own n B w L)
    (hK : ∀ (xs : List Value) q w', xs.length = k * size → Own n B w' (.row e size (.slice (some ⟨q, 0, none⟩) k m) k xs :: L) → wpList P ops Q rest (a.put o.dst (.slice (some ⟨q, 0, none⟩) k m)) w') : wpList P ops Q (o :: rest) a w := by
  subst h5
  subst h4
  refine wpList_plain hg fun K hK' => ?_
  have h63' : (m : Int) ≤ 9223372036854775807 := by
    have h := b3
    simp [maxLen] at h
    omega
  have hb' : (i.bytes : Int) * (m : Int) ≤ 281474976710656 := by
    have h : ((i.bytes * m : Nat) : Int) ≤ 281474976710656 := by omega
    rwa [Int.natCast_mul] at h
  have hr := run_make (P := P) w t e i z h1 h2 h3 kl kc k m (by omega) (by omega) hb' h63'
  simp only [Int.toNat_natCast] at hr
  subst hx
  subst hy
  unfold Oper.wp
  simp only [execOp, hop, hl, hc]
  simp [hr, Result.andThen]
  refine hK' _ _ (hK _ _ _ ?_ (hO.allocRow (cur := madeCells z.cells (m * i.size)) i.size hkm b3 (size_madeCells _ _)))
  rw [List.length_take, Array.length_toList, size_madeCells]
  exact Nat.min_eq_left (Nat.mul_le_mul_right _ hkm)

/-- copy of as many elements as the row has. -/
theorem run_copy_elems {P : Program} (w : World) (dT sT ty elem : TypeId) (i : TypeInfo) (g k dCap : Nat) (a : Addr) (sCap : Nat) (cur : Array Value) (t : TypeId) (cs : List Value)
    (hu : P.underlying dT = some (.slice elem)) (hi : P.info? elem = some i) (hg : w.heap[g]? = some (.cells cur t (0, 0))) (hn : cs.length = k * i.size)
    (hsrc : ∀ j v, cs[j]? = some v → w.cell? (a.add j) = some v) (hfit : cs.length ≤ cur.size) (h1 : ∀ v ∈ cs, v.oneCell' = true) :
    (Builtin.copy_ #[dT, sT] ty #[.slice (some ⟨g, 0, none⟩) k dCap, .slice (some a) k sCap]).run P w = .ok (goInt k) (w.setRow g (cs ++ cur.toList.drop cs.length).toArray) := by
  have hl := run_loadCells_list (P := P) w a cs hsrc
  have hst := run_storeCells_at P g 0 t cs 0 cur w hg (by simpa using hfit) h1
  have hm : Nat.min k k = k := Nat.min_self k
  simp [Builtin.copy_, run_underlying hu, Builtin.lenOf, Builtin.firstCells, sizeOf, typeInfo, hi, hm, ← hn, hl, hst]

/-- 'copy(out, v)', out the row at the head, v as long. -/
theorem wpList_copy_elems {P : Program} {ops : Array Oper} {rest : List Oper} {o : Oper} {a : Act} {Q : Exit → Act → World → Prop} {n : Nat} {B : World → Prop} {w : World} {L : List Item} {xv : Value} {q k m : Nat} {xs news : List Value}
    (hgd : o.guard = none) (d s : Operand) (dT sT : TypeId) (ho : o.op = .call { callee := .builtin .copy, args := #[d, s], argTypes := #[dT, sT] })
    (e : TypeId) (i : TypeInfo) (size : Nat) (ht : P.underlying dT = some (.slice e)) (hi : P.info? e = some i) (hsize : i.size = size)
    (hd : a.eval d = .slice (some ⟨q, 0, none⟩) k m) (hs : a.eval s = xv) (hO : Own n B w (.row e size (.slice (some ⟨q, 0, none⟩) k m) k xs :: L)) (hv : SlAt w xv k size news) (h1 : ∀ u ∈ news, u.oneCell' = true)
    (h : ∀ w', Own n B w' (.row e size (.slice (some ⟨q, 0, none⟩) k m) k news :: L) → wpList P ops Q rest (a.put o.dst (goInt k)) w') : wpList P ops Q (o :: rest) a w := by
  subst hsize
  refine wpList_plain hgd fun K hK => ?_
  have hown : w.ownsRow n e i.size (.slice (some ⟨q, 0, none⟩) k m) k xs := hO.1.1
  rcases hv.2 with ⟨rfl, rfl⟩ | ⟨b, off, c, rfl, _, _, _, hc⟩
  · have hr := run_copy_nil P w dT sT o.type e ⟨q, 0, none⟩ 0 m ht (by simp [hi])
    have e1 : xs = [] := List.eq_nil_of_length_eq_zero (by simpa using hown.1)
    have e2 : news = [] := List.eq_nil_of_length_eq_zero (by simpa using hv.1)
    subst e1
    subst e2
    unfold Oper.wp execOp
    simp only [ho, resolve, invoke, builtin, Sem.run_bind, Sem.run_pure, Result.andThen_ok, List.map_toArray, List.map_cons, List.map_nil, hd, hs, hr]
    exact hK _ _ (h w hO)
  · rcases hown.2 with ⟨h0, _⟩ | ⟨g, cap, cur, h0, hbg, hg, hkc, hcm, hcs, htk⟩
    · cases h0
    cases h0
    have hfit : news.length ≤ cur.size := by rw [hv.1, hcs]; exact Nat.mul_le_mul_right _ hkc
    have hr := run_copy_elems (P := P) w dT sT o.type e i q k m ⟨b, off, none⟩ c cur e news ht hi hg hv.1 (fun j u hj => by rw [add_any]; exact hc j u hj) hfit h1
    have hh := setRow_heap w q cur (news ++ cur.toList.drop news.length).toArray e _ hg
    unfold Oper.wp execOp
    simp only [ho, resolve, invoke, builtin, Sem.run_bind, Sem.run_pure, Result.andThen_ok, List.map_toArray, List.map_cons, List.map_nil, hd, hs, hr]
    refine hK _ _ (h _ (hO.regrown ⟨rfl, rfl, rfl, by simp [World.setRow], fun j hj hne => setRow_other w q j _ (fun e => hne (by rw [e]; rfl))⟩ ⟨hv.1, .inr ⟨q, m, _, rfl, hbg, hh, hkc, hcm, ?_, ?_⟩⟩ (.inl rfl)))
    · simp
      omega
    · simp only
      rw [← hv.1, List.take_left]

/- Calls that write a block that the caller owns (a method by its pointer), with an open list behind it. No program in it. -/
open Go.RowKit

/-- what such a call leaves: a value and what is owned. -/
def OwnOut (n : Nat) (B : World → Prop) (R : Value → List Item → Prop) (e : Ending) (w' : World) : Prop := ∃ v L', e = .returned v ∧ R v L' ∧ Own n B w' L'
theorem own_callE {P : Program} {f : FuncId} {args : Array Value} {n : Nat} {B : World → Prop} {W : World} {L : List Item} {R : Value → List Item → Prop} {K : Ending → World → Prop}
    (hO : Own n B W L) (h : Own n B W L → Calls P f args W (OwnOut n B R)) (k : ∀ v L' w1, R v L' → Own n B w1 L' → K (.returned v) w1) : Calls P f args W K :=
  (h hO).mono fun e w' ⟨v, L', he, hr, ho⟩ => by subst he; exact k v L' w' hr ho
theorem updI_other {b i : Nat} {u : Value} {x : Item} (h : x.at? ≠ some b) : updI b i u x = x := by
  cases x with
  | blk q vs =>
    have hq : ¬ q = b := fun e => h (by rw [← e]; rfl)
    simp only [updI]; rw [if_neg hq]
  | row e size v k xs =>
    have hq : ¬ v.ownBlock = some b := fun e => h e
    simp only [updI]; rw [if_neg hq]
theorem upd_none {b : Nat} {L : List Item} (h : ∀ x ∈ L, x.at? ≠ some b) : ∀ i u, List.map (updI b i u) L = L := fun i u => by
  have : ∀ x ∈ L, updI b i u x = x := fun x hx => updI_other (h x hx)
  rw [List.map_congr_left this, List.map_id']
/-- a store into the block at the head leaves the tail. -/
theorem upd_tail {n b : Nat} {B : World → Prop} {w : World} {vs : List Value} {L : List Item} (h : Own n B w (.blk b vs :: L)) : ∀ i u, List.map (updI b i u) L = L :=
  upd_none fun x hx e => (h.1.2 x hx).to b e rfl
/-- a store into a block made later, too. -/
theorem upd_fresh {n b : Nat} {B : World → Prop} {w : World} {L : List Item} (h : Own n B w L) (hb : w.heap.size ≤ b) : ∀ i u, List.map (updI b i u) L = L :=
  upd_none fun x hx e => by have := (h.lt x hx b e).2; omega

/- Arrays by value in memory: a block that holds a whole array, laid, written and read as one. No program in it. -/
open Go.RowKit

/-- The block q holds a whole array of k elements, size cells each. -/
abbrev arrI (e : TypeId) (size q k : Nat) (xs : List Value) : Item := .row e size (.slice (some ⟨q, 0, none⟩) k k) k xs

section
variable {n : Nat} {B : World → Prop} {w : World} {L : List Item} {e : TypeId} {size q k : Nat} {xs : List Value}
theorem Own.allocArr {cs : Array Value} (h : Own n B w L) (hm : k ≤ maxLen) (hs : cs.size = k * size) : Own n B (w.alloc (.cells cs e)) (arrI e size w.heap.size k cs.toList :: L) := by
  have := h.allocRow (e := e) (cur := cs) (k := k) (cap := k) size (Nat.le_refl _) hm hs
  rwa [List.take_of_length_le (by simp [hs])] at this
theorem Own.arr_heap (h : Own n B w L) (hm : arrI e size q k xs ∈ L) : w.heap[q]? = some (.cells xs.toArray e (0, 0)) ∧ xs.length = k * size ∧ n ≤ q := by
  obtain ⟨h1, h2⟩ := (h.holds _ hm : w.ownsRow n e size _ k xs)
  rcases h2 with ⟨h2, _⟩ | ⟨g, cap, cur, h3, h4, h5, _, _, h6, h7⟩
  · cases h2
  · cases h3
    refine ⟨?_, h1, h4⟩
    rw [h5]
    rw [List.take_of_length_le (by simp [h6])] at h7
    subst h7
    rfl
theorem Own.arr_row {ys : List Value} (h : Own n B w (arrI e size q k xs :: L)) (hl : ys.length = k * size) : Own n B (w.setRow q ys.toArray) (arrI e size q k ys :: L) := by
  obtain ⟨h1, h2, h3⟩ := h.arr_heap List.mem_cons_self
  have hlt : q < w.heap.size := (Array.getElem?_eq_some_iff.1 h1).1
  have hm : k ≤ maxLen := by
    rcases (h.1.1 : w.ownsRow n e size _ k xs).2 with ⟨h2, _⟩ | ⟨g, cap, cur, h4, _, _, _, h5, _⟩
    · cases h2
    · cases h4; exact h5
  refine Own.regrown (v := .slice (some ⟨q, 0, none⟩) k k) h ⟨rfl, rfl, rfl, ?_, fun j hj hr => ?_⟩ ⟨hl, .inr ⟨q, k, ys.toArray, rfl, h3, setRow_heap w q _ _ e _ h1, Nat.le_refl _, hm, by simpa using hl, by simp [← hl]⟩⟩ (Or.inl rfl)
  · simp [World.setRow]
  · have hne : q ≠ j := fun e => hr (by subst e; rfl)
    simp [World.setRow, Array.getElem?_modify, hne]
end

/-- A variable of an array's type is laid: its zero. -/
theorem wpList_alloc_arr {P : Program} {ops : Array Oper} {rest : List Oper} {o : Oper} {a : Act} {Q : Exit → Act → World → Prop} {n : Nat} {B : World → Prop} {w : World} {L : List Item} {cs : List Value} {size k : Nat}
    (hg : o.guard = none) (e : TypeId) (hop : o.op = .alloc e) (i : TypeInfo) (hi : P.info? e = some i) (hz : i.zero = some (.agg cs.toArray)) (hk : cs.length = k * size) (hm : k ≤ maxLen) (hO : Own n B w L)
    (hK : ∀ q w', Own n B w' (arrI e size q k cs :: L) → wpList P ops Q rest (a.put o.dst (.pointer (some ⟨q, 0, none⟩))) w') : wpList P ops Q (o :: rest) a w := by
  refine wpList_plain hg fun K hK' => ?_
  have hO2 := hO.allocArr (e := e) (k := k) (size := size) (cs := cs.toArray) hm (by simpa using hk)
  unfold Oper.wp
  simp [execOp, hop, Instr.alloc, zeroValue, typeInfo, hi, hz, newVar, newRow, Value.cells, Result.andThen, go_sem]
  exact hK' _ _ (hK _ _ (by simpa using hO2))
/-- A whole array is stored. -/
theorem wpList_store_arr {P : Program} {ops : Array Oper} {rest : List Oper} {o : Oper} {a : Act} {Q : Exit → Act → World → Prop} {n : Nat} {B : World → Prop} {w : World} {L : List Item} {e : TypeId} {size q k : Nat} {xs ys : List Value}
    (hg : o.guard = none) (ty : TypeId) (x y : Operand) (hop : o.op = .store ty x y) (hx : a.eval x = .pointer (some ⟨q, 0, none⟩)) (hy : a.eval y = .agg ys.toArray) (hO : Own n B w (arrI e size q k xs :: L))
    (hi : (P.info? ty).map (·.size) = some ys.length) (hl : ys.length = k * size) (h1 : ys.all (·.oneCell') = true)
    (hK : ∀ w', Own n B w' (arrI e size q k ys :: L) → wpList P ops Q rest (a.put o.dst undef) w') : wpList P ops Q (o :: rest) a w := by
  obtain ⟨g1, g2, _⟩ := hO.arr_heap List.mem_cons_self
  exact wpList_store_row hg ty x y hop q ys.toArray hx hy e xs.toArray g1 (by simpa using hi) (by simp [g2, hl]) (by simpa using h1) (hK _ (hO.arr_row hl))
/-- A whole array is loaded. -/
theorem wpList_load_arr {P : Program} {ops : Array Oper} {rest : List Oper} {o : Oper} {a : Act} {Q : Exit → Act → World → Prop} {n : Nat} {B : World → Prop} {w : World} {L : List Item} {e : TypeId} {size q k : Nat} {xs : List Value}
    (hg : o.guard = none) (ty : TypeId) (x : Operand) (hop : o.op = .load ty x) (hx : a.eval x = .pointer (some ⟨q, 0, none⟩)) (hO : Own n B w L) (hm : arrI e size q k xs ∈ L)
    (d : TypeDesc) (hu : P.underlying ty = some d) (hd : (match d with | .struct _ | .array _ _ => true | _ => false) = true) (hi : (P.info? ty).map (·.size) = some xs.length)
    (hK : wpList P ops Q rest (a.put o.dst (.agg xs.toArray)) w) : wpList P ops Q (o :: rest) a w := by
  obtain ⟨g1, _, _⟩ := hO.arr_heap hm
  exact wpList_load_row hg ty x hop q hx e xs.toArray (0, 0) d g1 hu hd (by simpa using hi) hK
/-- A whole array by a literal without parts: its zero. -/
theorem wpList_build_arr {P : Program} {ops : Array Oper} {rest : List Oper} {o : Oper} {a : Act} {Q : Exit → Act → World → Prop} {w : World} {cs : List Value}
    (hg : o.guard = none) (ty : TypeId) (hop : o.op = .build ty #[]) (hb : P.built ty [] = some cs.toArray)
    (hK : wpList P ops Q rest (a.put o.dst (.agg cs.toArray)) w) : wpList P ops Q (o :: rest) a w :=
  wpList_build hg ty #[] hop (by simp [hb]) (by simpa [hb] using hK)
/-- One of a whole array's elements, each of several cells. -/
theorem run_index_arr {P : Program} (t el : TypeId) (n s : Nat) (cs : List Value) (c : Nat) (d : TypeDesc) (i : TypeInfo) (hu : P.underlying t = some (.array n el)) (hc : c < n) (hd : P.underlying el = some d)
    (hag : (match d with | .struct _ | .array _ _ => true | _ => false) = true) (hi : P.info? el = some i) (hs : i.size = s) (w : World) :
    (Instr.index t (.agg cs.toArray) (.int .i64 c)).run P w = .ok (.agg ((cs.drop (c * s)).take s).toArray) w := by
  have hin : 0 ≤ (c : Int) ∧ (c : Int) < (n : Int) := by omega
  have hagg : (isAgg el).run P w = .ok true w := by
    unfold isAgg
    rw [Sem.run_bind, run_underlying hd w]
    cases d <;> simp_all
  subst hs
  simp [Instr.index, run_underlying hu, asIntOf, hc, part, Sem.run_bind, hagg, sizeOf, typeInfo, hi, Result.andThen, go_sem]
/-- What a function hands back: a whole array of its own, and a flag. -/
theorem results_arr {P : Program} {fn : Func} {p r : Tmp} {ty : TypeId} (h : fn.results = #[.cell p ty, .tmp r]) (tmps : Array Value) {n : Nat} {B : World → Prop} {w : World} {L : List Item} {e : TypeId} {size q k : Nat} {xs : List Value} {v : Value}
    (hp : tmps.getD p undef = .pointer (some ⟨q, 0, none⟩)) (hr : tmps.getD r undef = v) (hO : Own n B w L) (hm : arrI e size q k xs ∈ L)
    (d : TypeDesc) (hu : P.underlying ty = some d) (hd : (match d with | .struct _ | .array _ _ => true | _ => false) = true) (hi : (P.info? ty).map (·.size) = some xs.length) :
    (results fn tmps).run P w = .ok (.tuple #[.agg xs.toArray, v]) w := by
  obtain ⟨g1, _, _⟩ := hO.arr_heap hm
  have hp' : tmps[p]?.getD undef = .pointer (some ⟨q, 0, none⟩) := by simpa using hp
  have hr' : tmps[r]?.getD undef = v := by simpa using hr
  simp [results, h, hp', hr', asAddr, run_loadVar_row w q e ty xs.toArray (0, 0) d g1 hu hd (by simpa using hi)]
end Go.Proofs.YtcgcnkddgihkpaaDoor
