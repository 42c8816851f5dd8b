/- Memory that a call owns: blocks of cells that it has made, what they hold, and a base fact on the rest of the world that making, drawing and writing one's own keeps. No program in it. -/
import Derived.Test.YtcmhfjpofkgjbaaDoorPure1
import Derived.Laws.AppendOwn
import Derived.Laws.Rows
import Derived.OwnWalk
namespace Go.Proofs.YtcmhfjpofkgjbaaDoor
set_option linter.unusedSimpArgs false
set_option linter.unusedVariables false
set_option maxRecDepth 8000
open Go.RowKit

/-- Block g, if it is no block of cells, lies as it lay. -/
def Tame (w w' : World) (g : Nat) : Prop := (∀ c t f, w.heap[g]? ≠ some (.cells c t f)) → w'.heap[g]? = w.heap[g]?
theorem tame_set (w : World) (p : Addr) (v : Value) : Tame w (w.setCell p v) p.block := by
  intro h
  by_cases hlt : p.block < w.heap.size
  · show (w.heap.modify p.block _)[p.block]? = _
    rw [Array.getElem?_eq_getElem (by rw [Array.size_modify]; exact hlt), Array.getElem_modify_self, Array.getElem?_eq_getElem hlt]
    rw [Array.getElem?_eq_getElem hlt] at h
    cases ho : w.heap[p.block] with
    | cells c t f => exact absurd (by rw [ho]) (h c t f)
    | _ => rfl
  · rw [Array.getElem?_eq_none (by simp [World.setCell]; omega), Array.getElem?_eq_none (by omega)]
theorem tame_cells {w w' : World} {g : Nat} {c : Array Value} {t : TypeId} {f : Nat × Nat} (h : w.heap[g]? = some (.cells c t f)) : Tame w w' g := fun hn => absurd h (hn c t f)
/-- A fact on the world that stays when blocks are made and cells of blocks from n on are written. -/
structure Stab (n : Nat) (B : World → Prop) : Prop where
  low : ∀ w, B w → n ≤ w.heap.size
  grown : ∀ w w' r, B w → w.grownBy w' r → (∀ g, r = some g → n ≤ g ∧ Tame w w' g) → B w'
theorem Stab.below {n : Nat} {B : World → Prop} (h : Stab n B) (w w' : World) (hB : B w) (hb : Below w.heap.size w w') : B w' :=
  h.grown w w' none hB ⟨hb.os, hb.tape, hb.output, hb.size, fun k hk _ => hb.block k hk⟩ (fun _ e => by cases e)
theorem grownBy_set (w : World) (p : Addr) (v : Value) : w.grownBy (w.setCell p v) (some p.block) :=
  ⟨rfl, rfl, rfl, by simp [World.setCell], fun k _ hk => Below.heap_setCell _ _ _ _ (fun e => hk (by rw [e]))⟩
theorem Stab.set {n : Nat} {B : World → Prop} (h : Stab n B) (w : World) (p : Addr) (v : Value) (hB : B w) (hp : n ≤ p.block) : B (w.setCell p v) :=
  h.grown w _ _ hB (grownBy_set w p v) (fun _ e => by cases e; exact ⟨hp, tame_set w p v⟩)

/-- From offset i on block b holds these cells, and may be written. -/
def CellsAt (w : World) (b : Nat) : Nat → List Value → Prop
  | _, [] => True
  | i, v :: vs => (w.cell? ⟨b, i, none⟩ = some v ∧ w.frozen? ⟨b, i, none⟩ = false) ∧ CellsAt w b (i + 1) vs

/-- A thing that a call owns: a block of its own with these cells; or the row of a slice that it has made: k elements of type e, size cells each, xs their cells, with whatever room behind them. -/
inductive Item where
  | blk (b : Nat) (vs : List Value)
  | row (e : TypeId) (size : Nat) (v : Value) (k : Nat) (xs : List Value)

/-- The block in which it lies. -/
def Item.at? : Item → Option Nat
  | .blk b _ => some b
  | .row _ _ v _ _ => v.ownBlock

/-- It is there. -/
def Item.Holds (n : Nat) (w : World) : Item → Prop
  | .blk b vs => CellsAt w b 0 vs ∧ n ≤ b ∧ b < w.heap.size
  | .row e size v k xs => w.ownsRow n e size v k xs

/-- Two things lie apart. -/
def apartI : Item → Item → Prop
  | .blk b _, .blk c _ => b ≠ c ∧ c ≠ b
  | .blk b _, .row _ _ v _ _ => v.ownBlock ≠ some b
  | .row _ _ v _ _, .blk b _ => v.ownBlock ≠ some b
  | .row _ _ v _ _, .row _ _ u _ _ => ∀ g, v.ownBlock = some g → u.ownBlock ≠ some g

theorem apartI.of {x y : Item} (h : ∀ g, x.at? = some g → y.at? ≠ some g) : apartI x y := by
  cases x <;> cases y <;> simp only [apartI, Item.at?] at *
  · rename_i b vs c us
    have := h b rfl
    exact ⟨fun e => this (by rw [e]), fun e => this (by rw [e])⟩
  · exact h _ rfl
  · rename_i b vs
    exact fun e => h b e rfl
  · exact h
theorem apartI.to {x y : Item} (h : apartI x y) : ∀ g, x.at? = some g → y.at? ≠ some g := by
  intro g hg
  cases x <;> cases y <;> simp only [apartI, Item.at?] at *
  · rename_i b vs c us
    cases hg
    exact fun e => h.1 (Option.some.inj e).symm
  · cases hg; exact h
  · rename_i b vs
    exact fun e => h (by rw [hg, e])
  · exact h g hg
theorem apartI.symm {x y : Item} (h : apartI x y) : apartI y x := .of fun g hg e => h.to g e hg

/-- What a call owns. -/
def Own (n : Nat) (B : World → Prop) (w : World) : List Item → Prop
  | [] => Stab n B ∧ B w
  | it :: L => (it.Holds n w ∧ ∀ x ∈ L, apartI x it) ∧ Own n B w L

theorem CellsAt.imp {w w' : World} {b : Nat} : ∀ {vs : List Value} {i : Nat}, (∀ j, w'.cell? ⟨b, j, none⟩ = w.cell? ⟨b, j, none⟩ ∧ w'.frozen? ⟨b, j, none⟩ = w.frozen? ⟨b, j, none⟩) → CellsAt w b i vs → CellsAt w' b i vs
  | [], _, _, _ => trivial
  | _ :: _, i, h, ⟨⟨h1, h2⟩, h3⟩ => ⟨⟨by rw [(h i).1, h1], by rw [(h i).2, h2]⟩, h3.imp h⟩

theorem CellsAt.set {w : World} {b k : Nat} {v : Value} : ∀ {vs : List Value} {i : Nat}, CellsAt w b i vs → CellsAt (w.setCell ⟨b, k, none⟩ v) b i (if i ≤ k then vs.set (k - i) v else vs)
  | [], i, _ => by split <;> exact trivial
  | x :: vs, i, ⟨⟨h1, h2⟩, h3⟩ => by
    have ih := h3.set (k := k) (v := v)
    by_cases hk : i ≤ k
    · rw [if_pos hk]
      by_cases he : i = k
      · subst he
        rw [if_neg (by omega)] at ih
        rw [Nat.sub_self]
        exact ⟨⟨World.cell?_setCell_same _ _ _ h1, by simpa using h2⟩, ih⟩
      · rw [if_pos (by omega)] at ih
        obtain ⟨d, hd⟩ : ∃ d, k - i = d + 1 := ⟨k - i - 1, by omega⟩
        rw [hd, List.set_cons_succ]
        rw [show k - (i + 1) = d by omega] at ih
        exact ⟨⟨by rw [World.cell?_setCell_other w ⟨b, k, none⟩ _ _ (fun e => he (congrArg Addr.off e).symm), h1], by simpa using h2⟩, ih⟩
    · rw [if_neg hk]
      rw [if_neg (by omega)] at ih
      exact ⟨⟨by rw [World.cell?_setCell_other w ⟨b, k, none⟩ _ _ (fun e => by have := congrArg Addr.off e; simp at this; omega), h1], by simpa using h2⟩, ih⟩

/-- What an item holds behind a store. -/
def updI (b i : Nat) (u : Value) : Item → Item
  | .blk q vs => if q = b then .blk q (vs.set i u) else .blk q vs
  | .row e size v k xs => if v.ownBlock = some b then .row e size v k (xs.set i u) else .row e size v k xs
/-- What the list holds behind a store. -/
def upd (L : List Item) (b i : Nat) (u : Value) : List Item := L.map (updI b i u)
theorem updI_at {b i : Nat} {u : Value} {x : Item} : (updI b i u x).at? = x.at? := by
  cases x <;> (simp only [updI]; split <;> rfl)
theorem apartI_updI {b i : Nat} {u : Value} {x y : Item} (h : apartI x y) : apartI (updI b i u x) (updI b i u y) := .of fun g hg => by
  rw [updI_at] at hg ⊢; exact h.to g hg

section
variable {n : Nat} {B : World → Prop} {w w' : World}

theorem Own.stab : ∀ {L : List Item}, Own n B w L → Stab n B
  | [], h => h.1
  | _ :: _, h => Own.stab h.2
theorem Own.base : ∀ {L : List Item}, Own n B w L → B w
  | [], h => h.2
  | _ :: _, h => Own.base h.2
theorem Own.low {L : List Item} (h : Own n B w L) : n ≤ w.heap.size := h.stab.low w h.base

theorem Item.Holds.below {x : Item} (h : x.Holds n w) (hb : Below w.heap.size w w') : x.Holds n w' := by
  cases x with
  | blk b vs =>
    obtain ⟨h1, h2, h3⟩ := h
    obtain ⟨hc, hf⟩ := bcell hb
    exact ⟨h1.imp fun j => ⟨hc _ _ h3, hf _ _ h3⟩, h2, Nat.lt_of_lt_of_le h3 hb.size⟩
  | row e size v k xs => exact World.ownsRow.kept (row := none) h ⟨hb.os, hb.tape, hb.output, hb.size, fun i hi _ => hb.block i hi⟩ (by cases v.ownBlock <;> simp)
theorem Item.Holds.lt {x : Item} (h : x.Holds n w) : ∀ g, x.at? = some g → n ≤ g ∧ g < w.heap.size := by
  intro g hg
  cases x with
  | blk b vs => cases hg; exact h.2
  | row e size v k xs => exact World.ownsRow.lt h g hg
/-- What has not been touched holds on. -/
theorem Item.Holds.grown {x : Item} {r : Option Nat} (h : x.Holds n w) (hg : w.grownBy w' r) (hr : ∀ g, x.at? = some g → r ≠ some g) : x.Holds n w' := by
  cases x with
  | blk b vs =>
    obtain ⟨h1, h2, h3⟩ := h
    have hk : w'.heap[b]? = w.heap[b]? := hg.block b h3 (fun e => hr b rfl e.symm)
    exact ⟨h1.imp fun j => ⟨World.cell?_of_block (w := w) hk, World.frozen?_of_block (w := w) hk⟩, h2, Nat.lt_of_lt_of_le h3 hg.size⟩
  | row e size v k xs =>
    refine World.ownsRow.kept h hg ?_
    cases hv : v.ownBlock with
    | none => exact Or.inl rfl
    | some g => exact Or.inr fun e => hr g hv e.symm

theorem Own.below : ∀ {L : List Item}, Own n B w L → Below w.heap.size w w' → Own n B w' L
  | [], h, hb => ⟨h.1, h.1.below _ _ h.2 hb⟩
  | _ :: _, ⟨⟨h1, h2⟩, h3⟩, hb => ⟨⟨h1.below hb, h2⟩, h3.below hb⟩

theorem Own.lt : ∀ {L : List Item}, Own n B w L → ∀ x ∈ L, ∀ g, x.at? = some g → n ≤ g ∧ g < w.heap.size
  | [], _, x, hx => by cases hx
  | it :: L, ⟨⟨h1, _⟩, h3⟩, x, hx => by
    rcases List.mem_cons.1 hx with rfl | hx
    · exact h1.lt
    · exact h3.lt x hx
theorem Own.holds : ∀ {L : List Item}, Own n B w L → ∀ x ∈ L, x.Holds n w
  | [], _, x, hx => by cases hx
  | it :: L, ⟨⟨h1, _⟩, h3⟩, x, hx => by
    rcases List.mem_cons.1 hx with rfl | hx
    · exact h1
    · exact h3.holds x hx

theorem Own.drew {L : List Item} (h : Own n B w L) : Own n B w.drew L := h.below (below_drew1 _)

theorem CellsAt.new {w : World} {t : TypeId} {vs : List Value} : CellsAt (w.alloc (.cells vs.toArray t)) w.heap.size 0 vs := by
  suffices h : ∀ (us : List Value) (i : Nat), (∀ j, us[j]? = vs[i + j]?) → CellsAt (w.alloc (.cells vs.toArray t)) w.heap.size i us from h vs 0 (fun j => by simp)
  intro us
  induction us with
  | nil => intro i _; exact trivial
  | cons u us ih =>
    intro i h
    have h0 := h 0
    simp at h0
    refine ⟨⟨?_, ?_⟩, ih (i + 1) (fun j => by have := h (j + 1); simpa [Nat.add_assoc, Nat.add_comm 1 j] using this)⟩
    · simp [← h0]
    · exact World.frozen?_alloc_at _ _ _ _ rfl

theorem Own.alloc {t : TypeId} {vs : List Value} {L : List Item} (h : Own n B w L) : Own n B (w.alloc (.cells vs.toArray t)) (.blk w.heap.size vs :: L) :=
  ⟨⟨⟨CellsAt.new, h.low, by simp⟩, fun x hx => .of fun g hg e => by cases e; have := (h.lt x hx _ hg).2; omega⟩, h.below (below1 _)⟩

theorem Item.Holds.set {x : Item} {b i : Nat} {u : Value} (h : x.Holds n w) : (updI b i u x).Holds n (w.setCell ⟨b, i, none⟩ u) := by
  cases x with
  | blk q vs =>
    obtain ⟨h1, h2, h3⟩ := h
    simp only [updI]
    by_cases hq : q = b
    · subst hq
      rw [if_pos rfl]
      exact ⟨by have := h1.set (k := i) (v := u); simpa using this, h2, by simpa using h3⟩
    · rw [if_neg hq]
      exact ⟨h1.imp fun j => ⟨World.cell?_setCell_other w _ _ _ (fun e => hq (congrArg Addr.block e).symm), by simp⟩, h2, by simpa using h3⟩
  | row e size v k xs =>
    simp only [updI]
    by_cases hq : v.ownBlock = some b
    · rw [if_pos hq]
      obtain ⟨hl, hh⟩ := h
      refine ⟨by simpa using hl, ?_⟩
      rcases hh with ⟨rfl, _⟩ | ⟨g, cap, cur, rfl, hb, hg, hk, hm, hs, ht⟩
      · simp [Value.ownBlock] at hq
      · simp [Value.ownBlock] at hq
        subst hq
        refine Or.inr ⟨g, cap, cur.setIfInBounds i u, rfl, hb, heap_setCell_same _ _ _ _ _ _ hg, hk, hm, by simpa using hs, ?_⟩
        rw [Array.toList_setIfInBounds, List.take_set, ht]
    · rw [if_neg hq]
      obtain ⟨hl, hh⟩ := h
      refine ⟨hl, ?_⟩
      rcases hh with hn | ⟨g, cap, cur, rfl, hb, hg, rest⟩
      · exact Or.inl hn
      · refine Or.inr ⟨g, cap, cur, rfl, hb, ?_, rest⟩
        rw [Below.heap_setCell _ _ _ _ (fun e => hq (by simp only [Value.ownBlock]; rw [e]))]
        exact hg

theorem Own.set0 {b i : Nat} {u : Value} (hb : n ≤ b) : ∀ {L : List Item}, Own n B w L → Own n B (w.setCell ⟨b, i, none⟩ u) (upd L b i u)
  | [], h => ⟨h.1, h.1.set _ _ _ h.2 hb⟩
  | it :: L, ⟨⟨h1, h2⟩, h3⟩ => ⟨⟨h1.set, fun x hx => by
      obtain ⟨y, hy, rfl⟩ := List.mem_map.1 hx
      exact apartI_updI (h2 y hy)⟩, Own.set0 hb h3⟩

theorem Own.set_at {L : List Item} {b i : Nat} {u : Value} (hb : n ≤ b) (h : Own n B w L) : Own n B (w.setCell ⟨b, i, none⟩ u) (upd L b i u) := Own.set0 hb h
end

/-- A cell of a block that is owned, its number reckoned. -/
theorem CellsAt.get {w : World} {b : Nat} : ∀ {vs : List Value} {i j : Nat} {v : Value}, CellsAt w b i vs → vs[j]? = some v → w.cell? ⟨b, i + j, none⟩ = some v
  | [], _, _, _, _, h => by simp at h
  | x :: vs, i, 0, v, h, hv => by simp at hv; subst hv; exact h.1.1
  | x :: vs, i, j + 1, v, h, hv => by
    have := h.2.get (j := j) (by simpa using hv)
    rw [← this]; congr 2; omega
theorem Own.cells {n : Nat} {B : World → Prop} {w : World} {b : Nat} {vs : List Value} {L : List Item} (h : Own n B w L) (hm : Item.blk b vs ∈ L) : CellsAt w b 0 vs := (h.holds _ hm).1
/-- One of a row of numbers, its place reckoned. -/
theorem Own.int_at {n : Nat} {B : World → Prop} {w : World} {b : Nat} {x : Int} {L : List Item} (us : List Int) (h : Own n B w L) (hm : Item.blk b (us.map (Value.int .i64)) ∈ L) (x0 : 0 ≤ x) (x1 : x < us.length) :
    w.cell? ⟨b, x.toNat, none⟩ = some (.int .i64 (us.getD x.toNat 0)) := by
  have hl : x.toNat < us.length := by omega
  have := (h.cells hm).get (j := x.toNat) (v := .int .i64 (us.getD x.toNat 0)) (by simp [List.getD_eq_getElem?_getD, List.getElem?_eq_getElem hl])
  simpa using this
theorem getD_mem {us : List Int} {x : Int} (x0 : 0 ≤ x) (x1 : x < us.length) : us.getD x.toNat 0 ∈ us := by
  have hl : x.toNat < us.length := by omega
  rw [List.getD_eq_getElem?_getD, List.getElem?_eq_getElem hl]
  simp
/-- The same with a name of its own. -/
theorem Own.int_some {n : Nat} {B : World → Prop} {w : World} {b : Nat} {x : Int} {L : List Item} (us : List Int) (h : Own n B w L) (hm : Item.blk b (us.map (Value.int .i64)) ∈ L) (x0 : 0 ≤ x) (x1 : x < us.length) :
    ∃ u, u ∈ us ∧ w.cell? ⟨b, x.toNat, none⟩ = some (.int .i64 u) := ⟨_, getD_mem x0 x1, h.int_at us hm x0 x1⟩

/-- The base of an ordinary call: nothing that was there has turned. -/
theorem Stab.plain (w0 : World) : Stab w0.heap.size (Below w0.heap.size w0) :=
  ⟨fun _ h => h.size, fun _ _ _ h hg hr => h.grown hg h.size fun g e => (hr g e).1⟩
theorem Own.start (w0 : World) : Own w0.heap.size (Below w0.heap.size w0) w0 [] := ⟨Stab.plain w0, Below.refl _ _⟩

/-- A call by its contract: the world behind it is a new one, in which all that is owned is as it was. -/
theorem own_call {P : Program} {f : FuncId} {args : Array Value} {n : Nat} {B : World → Prop} {W : World} {L : List Item} {v : Value} {K : Ending → World → Prop}
    (hO : Own n B W L) (h : B W → Calls P f args W fun e w' => e = .returned v ∧ Below W.heap.size W w') (k : ∀ w1, Own n B w1 L → K (.returned v) w1) : Calls P f args W K :=
  (h hO.base).mono fun e w' ⟨he, hb⟩ => by subst he; exact k w' (hO.below hb)

theorem own_at {P : Program} {f : FuncId} {args : Array Value} {n : Nat} {B : World → Prop} {W : World} {L L0 : List Item} {W0 : World} {K : Ending → World → Prop}
    (_ : Own n B W0 L0) (hO : Own n B W L) (k : Own n B W L → Calls P f args W K) : Calls P f args W K := k hO
theorem own_end {P : Program} {fn : Func} {R : Ending → World → Prop} {a : Act} {n : Nat} {B : World → Prop} {W : World} {L L0 : List Item} {W0 : World}
    (_ : Own n B W0 L0) (hO : Own n B W L) (k : Own n B W L → bodyPost P fn R .ret a W) : bodyPost P fn R .ret a W := k hO
theorem own_code {P : Program} {c : Code} {Q : Exit → Act → World → Prop} {a : Act} {n : Nat} {B : World → Prop} {W : World} {L L0 : List Item} {W0 : World}
    (_ : Own n B W0 L0) (hO : Own n B W L) (k : Own n B W L → c.wp P Q a W) : c.wp P Q a W := k hO
/-- A struct handed back: read in whatever world holds what is owned. -/
theorem own_ret {P : Program} {fn : Func} {R : Ending → World → Prop} {a : Act} {n : Nat} {B : World → Prop} {W : World} {L : List Item} {v : Value}
    (hO : Own n B W L) (hr : ∀ w', Own n B w' L → (results fn a.tmps).run P w' = .ok v w') (hd : a.defers = []) (hR : Own n B W L → R (.returned v) W) : bodyPost P fn R .ret a W :=
  bodyPost_ret (hr W hO) hd (hR hO)

/- Slices that a call has made: what append, make and a call that hands one back do to what is owned. No program in it. -/
open Go.RowKit

theorem ownsRow_mono {w : World} {b n : Nat} {e : TypeId} {size : Nat} {v : Value} {k : Nat} {xs : List Value} (h : w.ownsRow b e size v k xs) (hn : n ≤ b) : w.ownsRow n e size v k xs := by
  obtain ⟨h1, h2⟩ := h
  refine ⟨h1, ?_⟩
  rcases h2 with h2 | ⟨g, cap, cur, h3, h4, h5⟩
  · exact Or.inl h2
  · exact Or.inr ⟨g, cap, cur, h3, Nat.le_trans hn h4, h5⟩

section
variable {n : Nat} {B : World → Prop} {w w' : World} {L : List Item}

theorem Own.perm {L' : List Item} (hp : L.Perm L') (h : Own n B w L) : Own n B w L' := by
  induction hp with
  | nil => exact h
  | cons x _ ih => exact ⟨⟨h.1.1, fun y hy => h.1.2 y ((List.Perm.mem_iff ‹_›).2 hy)⟩, ih h.2⟩
  | swap x y l =>
    obtain ⟨⟨h1, h2⟩, ⟨⟨h3, h4⟩, h5⟩⟩ := h
    refine ⟨⟨h3, fun z hz => ?_⟩, ⟨⟨h1, fun z hz => h2 z (List.mem_cons_of_mem _ hz)⟩, h5⟩⟩
    rcases List.mem_cons.1 hz with rfl | hz
    · exact (h2 x (by simp)).symm
    · exact h4 z hz
  | trans _ _ ih1 ih2 => exact ih2 (ih1 h)

/-- A row at the head is written, or laid anew: what else is owned is as it was. -/
theorem Own.regrown {e e' : TypeId} {size size' : Nat} {v v' : Value} {k k' : Nat} {xs xs' : List Value} (h : Own n B w (.row e size v k xs :: L)) (hg : w.grownBy w' v.ownBlock) (hr : w'.ownsRow n e' size' v' k' xs') (hv : v'.ownBlock = v.ownBlock ∨ v'.ownBlock = some w.heap.size) : Own n B w' (.row e' size' v' k' xs' :: L) := by
  obtain ⟨⟨h1, h2⟩, h3⟩ := h
  have hn : ∀ g, v.ownBlock = some g → n ≤ g ∧ Tame w w' g := fun g e => ⟨(Item.Holds.lt (x := .row _ _ _ _ _) h1 g e).1, by
    rcases (h1 : w.ownsRow n _ size v k xs).2 with ⟨h0, _⟩ | ⟨q, cap, cur, h0, _, hq, _⟩
    · subst h0; cases e
    · subst h0; cases e; exact tame_cells hq⟩
  refine ⟨⟨hr, fun x hx => .of fun g hx1 e => ?_⟩, ?_⟩
  · have hlt := (h3.lt x hx g hx1).2
    have hap := (h2 x hx).to g hx1
    simp only [Item.at?] at e hap
    rcases hv with hv | hv
    · exact hap (by rw [← hv]; exact e)
    · rw [hv] at e; cases e; omega
  · have hap : ∀ x ∈ L, ∀ g, x.at? = some g → v.ownBlock ≠ some g := fun x hx g hg => (h2 x hx).to g hg
    clear h2 hr hv
    induction L with
    | nil => exact ⟨h3.1, h3.1.grown _ _ _ h3.2 hg hn⟩
    | cons y L ih =>
      obtain ⟨⟨g1, g2⟩, g3⟩ := h3
      exact ⟨⟨g1.grown hg (hap y (by simp)), g2⟩, ih g3 (fun x hx => hap x (List.mem_cons_of_mem _ hx))⟩

/-- A new row, of a call or of make. -/
theorem Own.addRow {e : TypeId} {size : Nat} {v : Value} {k : Nat} {xs : List Value} (h : Own n B w L) (hb : Below w.heap.size w w') (hr : w'.ownsRow w.heap.size e size v k xs) : Own n B w' (.row e size v k xs :: L) :=
  ⟨⟨ownsRow_mono hr h.low, fun x hx => .of fun g hx1 e => by
    have h1 := (h.lt x hx g hx1).2
    have h2 := (World.ownsRow.lt hr g e).1
    omega⟩, h.below hb⟩
/-- An array laid for a slice of its own. -/
theorem Own.allocRow {e : TypeId} (size : Nat) {cur : Array Value} {k cap : Nat} (h : Own n B w L) (hk : k ≤ cap) (hm : cap ≤ maxLen) (hs : cur.size = cap * size) :
    Own n B (w.alloc (.cells cur e)) (.row e size (.slice (some ⟨w.heap.size, 0, none⟩) k cap) k (cur.toList.take (k * size)) :: L) :=
  h.addRow (below1 _) ⟨by simp [hs, Nat.min_eq_left (Nat.mul_le_mul_right size hk)], .inr ⟨w.heap.size, cap, cur, rfl, Nat.le_refl _, heap_alloc_new w _, hk, hm, hs, rfl⟩⟩
theorem Own.drop {x : Item} (h : Own n B w (x :: L)) : Own n B w L := h.2
end

theorem append_block {P : Program} {w : World} {base : Nat} {t ty e : TypeId} {i : TypeInfo} {z : Value} {size bytes : Nat} (ht : P.underlying t = some (.slice e)) (hi : P.info? e = some i) (hz : i.zero = some z)
    (hsize : i.size = size) (hby : i.bytes = bytes) {v : Value} {n : Nat} {xs : List Value} (hown : w.ownsRow base e size v n xs)
    {a : Addr} {m c : Nat} {news : List Value} (hm : 0 < m) (hl : news.length = m * size) (hnews : ∀ j u, news[j]? = some u → w.cell? (a.add j) = some u) (h1 : ∀ u ∈ news, u.oneCell' = true)
    (h63 : n + m ≤ maxLen) (hbytes : (n + m) * bytes ≤ 140737488355328) {v' : Value} {w' : World} (hr : (Builtin.append_ #[t, t] ty #[v, .slice (some a) m c]).run P w = .ok v' w') :
    v'.ownBlock = v.ownBlock ∨ v'.ownBlock = some w.heap.size := by
  subst hsize
  subst hby
  have hsmall : n + m ≤ 9223372036854775807 := by simp only [maxLen] at h63; omega
  rcases hown.2 with ⟨rfl, rfl⟩ | ⟨g, cap, cur, rfl, hbg, hg, hnc, hcm, hcs, htake⟩
  · have hr1 := run_append_nil (P := P) w t ty e i z ht hi hz a m c news hl hnews hm (by omega) (by have hb := hbytes; simp only [Nat.zero_add] at hb; omega)
    rw [hr1] at hr
    cases hr
    exact Or.inr rfl
  · by_cases hroom : n + m ≤ cap
    · have hfit : n * i.size + news.length ≤ cur.size := by rw [hl, hcs, ← Nat.add_mul]; exact Nat.mul_le_mul_right _ hroom
      have hr1 := run_append_room (P := P) w t ty e i ht hi g n cap cur hg a m c news hl hnews h1 hroom hfit
      rw [hr1] at hr
      cases hr
      exact Or.inl rfl
    · have holds : ∀ j u, xs[j]? = some u → w.cell? ((⟨g, 0, none⟩ : Addr).add j) = some u := hown.cells (g := g) rfl
      have hr1 := run_append_grow (P := P) w t ty e i z ht hi hz ⟨g, 0, none⟩ n cap xs hown.1 holds a m c news hl hnews (by omega) (by omega) (growslice_fits (by omega) hbytes)
      rw [hr1] at hr
      cases hr
      exact Or.inr rfl

theorem add_flat (b j : Nat) : (⟨b, 0, none⟩ : Addr).add j = ⟨b, j, none⟩ := by unfold Addr.add; split <;> simp_all

/-- 'out = append(out, x)': the one element lies in a block of its own at the head, the row behind it. -/
theorem wpList_append_item {P : Program} {ops : Array Oper} {rest : List Oper} {o : Oper} {a : Act} {Q : Exit → Act → World → Prop} {n : Nat} {B : World → Prop} {w : World} {L : List Item} {v : Value} {k q c : Nat} {xs news : List Value}
    (hgd : o.guard = none) (s x : Operand) (t : TypeId) (ho : o.op = .call { callee := .builtin .append, args := #[s, x], argTypes := #[t, t] })
    (e : TypeId) (i : TypeInfo) (z : Value) (size bytes : Nat) (ht : P.underlying t = some (.slice e)) (hi : P.info? e = some i) (hz : i.zero = some z)
    (hsize : i.size = size) (hby : i.bytes = bytes) (hzs : z.cells.size = size) (hsz : 0 < size)
    (hs : a.eval s = v) (hx : a.eval x = .slice (some ⟨q, 0, none⟩) 1 c) (hO : Own n B w (.blk q news :: .row e size v k xs :: L)) (hl : news.length = size) (h1 : ∀ u ∈ news, u.oneCell' = true)
    (h63 : k + 1 ≤ maxLen) (hbytes : (k + 1) * bytes ≤ 140737488355328)
    (h : ∀ v' w', Own n B w' (.row e size v' (k + 1) (xs ++ news) :: L) → (v' = .slice none 0 0 → False) → wpList P ops Q rest (a.put o.dst v') w') : wpList P ops Q (o :: rest) a w := by
  refine wpList_plain hgd fun K hK => ?_
  have hown : w.ownsRow n e size v k xs := hO.2.1.1
  have hnews : ∀ j u, news[j]? = some u → w.cell? ((⟨q, 0, none⟩ : Addr).add j) = some u := fun j u hj => by
    rw [add_flat]
    have := (hO.cells (b := q) (vs := news) (by simp)).get hj
    simpa using this
  obtain ⟨v', w', hr, h2, h3, h4⟩ := run_append_own (P := P) w n t o.type e i z size bytes ht hi hz hsize hby hzs hsz v k xs hown ⟨q, 0, none⟩ 1 c news (by simpa using hl) hnews h1 h63 hbytes hO.low
  have h5 := append_block ht hi hz hsize hby hown (by omega) (by simpa using hl) hnews h1 h63 hbytes hr
  unfold Oper.wp execOp
  simp only [ho, resolve, invoke, builtin, Sem.run_bind, Sem.run_pure, Result.andThen_ok, List.map_toArray, List.map_cons, List.map_nil, hs, hx, hr]
  exact hK _ _ (h v' w' (hO.2.regrown h3 h2 h5) (fun e => by have := h4.1 e; omega))

/-- What a call that hands back a slice of its own leaves. -/
def RowOut (e : TypeId) (size k : Nat) (xs : List Value) (w : World) (e' : Ending) (w' : World) : Prop := ∃ v, e' = .returned v ∧ w'.ownsRow w.heap.size e size v k xs ∧ Below w.heap.size w w'
theorem RowOut.mk {e : TypeId} {size k : Nat} {xs : List Value} {w w' : World} {v : Value} {L : List Item} (hO : Own w.heap.size (Below w.heap.size w) w' (.row e size v k xs :: L)) : RowOut e size k xs w (.returned v) w' := ⟨v, rfl, hO.1.1, hO.base⟩
/-- A call that hands back a slice that it has made. -/
theorem own_call_row {P : Program} {f : FuncId} {args : Array Value} {n : Nat} {B : World → Prop} {W : World} {L : List Item} {e : TypeId} {size k : Nat} {xs : List Value} {K : Ending → World → Prop}
    (hO : Own n B W L) (h : B W → Calls P f args W (RowOut e size k xs W)) (k' : ∀ v w1, Own n B w1 (.row e size v k xs :: L) → K (.returned v) w1) : Calls P f args W K :=
  (h hO.base).mono fun e' w' ⟨v, he, hr, hb⟩ => by subst he; exact k' v w' (hO.addRow hb hr)

/-- A call whose contract asks what is owned. -/
theorem own_callO {P : Program} {f : FuncId} {args : Array Value} {n : Nat} {B : World → Prop} {W : World} {L : List Item} {v : Value} {K : Ending → World → Prop}
    (hO : Own n B W L) (h : Own n B W L → Calls P f args W fun e w' => e = .returned v ∧ Below W.heap.size W w') (k : ∀ w1, Own n B w1 L → K (.returned v) w1) : Calls P f args W K :=
  own_call hO (fun _ => h hO) k
/-- A slice lies in memory: k elements of size cells each, xs their cells. -/
def SlAt (w : World) (v : Value) (k size : Nat) (xs : List Value) : Prop :=
  xs.length = k * size ∧ ((v = .slice none 0 0 ∧ k = 0) ∨ ∃ b off cap, v = .slice (some ⟨b, off, none⟩) k cap ∧ k ≤ cap ∧ cap ≤ maxLen ∧ b < w.heap.size ∧ ∀ j u, xs[j]? = some u → w.cell? ⟨b, off + j, none⟩ = some u)
theorem SlAt.of_row {w : World} {n : Nat} {e : TypeId} {size : Nat} {v : Value} {k : Nat} {xs : List Value} (h : w.ownsRow n e size v k xs) : SlAt w v k size xs := by
  refine ⟨h.1, ?_⟩
  rcases h.2 with h2 | ⟨g, cap, cur, rfl, h4, h5, h6, h7, h8⟩
  · exact Or.inl h2
  · exact Or.inr ⟨g, 0, cap, rfl, h6, h7, (Array.getElem?_eq_some_iff.1 h5).1, fun j u hj => by
      have := h.cells (g := g) rfl j u hj
      rw [add_flat] at this
      simpa using this⟩
theorem SlAt.below {w w' : World} {v : Value} {k size : Nat} {xs : List Value} (h : SlAt w v k size xs) (hb : Below w.heap.size w w') : SlAt w' v k size xs := by
  obtain ⟨h1, h2⟩ := h
  refine ⟨h1, ?_⟩
  rcases h2 with h2 | ⟨b, off, cap, h3, h4, h5, h6, h7⟩
  · exact Or.inl h2
  · exact Or.inr ⟨b, off, cap, h3, h4, h5, Nat.lt_of_lt_of_le h6 hb.size, fun j u hj => by rw [(bcell hb).1 _ _ h6]; exact h7 j u hj⟩
end Go.Proofs.YtcmhfjpofkgjbaaDoor
