/- Memory that a call owns: blocks of cells that it has made, what they hold, and a base fact on the rest of the world that making, drawing and writing one's own keeps. No program in it. -/
import Derived.Test.YtjfkbhfdcdjeaaaDoorPure1
namespace Go.Proofs.YtjfkbhfdcdjeaaaDoor
set_option linter.unusedSimpArgs false
set_option linter.unusedVariables false
open Go.RowKit

/-- A fact on the world that stays when blocks are made and blocks from n on are written. -/
structure Stab (n : Nat) (B : World → Prop) : Prop where
  low : ∀ w, B w → n ≤ w.heap.size
  below : ∀ w w', B w → Below w.heap.size w w' → B w'
  set : ∀ w (p : Addr) v, B w → n ≤ p.block → B (w.setCell p v)

/-- From offset i on block b holds these cells, and may be written. -/
def CellsAt (w : World) (b : Nat) : Nat → List Value → Prop
  | _, [] => True
  | i, v :: vs => (w.cell? ⟨b, i, none⟩ = some v ∧ w.frozen? ⟨b, i, none⟩ = false) ∧ CellsAt w b (i + 1) vs

/-- What a call owns. -/
def Own (n : Nat) (B : World → Prop) (w : World) : List (Nat × List Value) → Prop
  | [] => Stab n B ∧ B w
  | (b, vs) :: L => (CellsAt w b 0 vs ∧ n ≤ b ∧ b < w.heap.size ∧ ∀ x ∈ L, x.1 ≠ b ∧ b ≠ x.1) ∧ Own n B w L

theorem CellsAt.imp {w w' : World} {b : Nat} : ∀ {vs : List Value} {i : Nat}, (∀ j, w'.cell? ⟨b, j, none⟩ = w.cell? ⟨b, j, none⟩ ∧ w'.frozen? ⟨b, j, none⟩ = w.frozen? ⟨b, j, none⟩) → CellsAt w b i vs → CellsAt w' b i vs
  | [], _, _, _ => trivial
  | _ :: _, i, h, ⟨⟨h1, h2⟩, h3⟩ => ⟨⟨by rw [(h i).1, h1], by rw [(h i).2, h2]⟩, h3.imp h⟩

theorem CellsAt.set {w : World} {b k : Nat} {v : Value} : ∀ {vs : List Value} {i : Nat}, CellsAt w b i vs → CellsAt (w.setCell ⟨b, k, none⟩ v) b i (if i ≤ k then vs.set (k - i) v else vs)
  | [], i, _ => by split <;> exact trivial
  | x :: vs, i, ⟨⟨h1, h2⟩, h3⟩ => by
    have ih := h3.set (k := k) (v := v)
    by_cases hk : i ≤ k
    · rw [if_pos hk]
      by_cases he : i = k
      · subst he
        rw [if_neg (by omega)] at ih
        rw [Nat.sub_self]
        exact ⟨⟨World.cell?_setCell_same _ _ _ h1, by simpa using h2⟩, ih⟩
      · rw [if_pos (by omega)] at ih
        obtain ⟨d, hd⟩ : ∃ d, k - i = d + 1 := ⟨k - i - 1, by omega⟩
        rw [hd, List.set_cons_succ]
        rw [show k - (i + 1) = d by omega] at ih
        exact ⟨⟨by rw [World.cell?_setCell_other w ⟨b, k, none⟩ _ _ (fun e => he (congrArg Addr.off e).symm), h1], by simpa using h2⟩, ih⟩
    · rw [if_neg hk]
      rw [if_neg (by omega)] at ih
      exact ⟨⟨by rw [World.cell?_setCell_other w ⟨b, k, none⟩ _ _ (fun e => by have := congrArg Addr.off e; simp at this; omega), h1], by simpa using h2⟩, ih⟩

/-- What the list holds behind a store. -/
def upd : List (Nat × List Value) → Nat → Nat → Value → List (Nat × List Value)
  | [], _, _, _ => []
  | (q, vs) :: L, b, i, v => if q = b then (q, vs.set i v) :: L else (q, vs) :: upd L b i v
theorem upd_same {L : List (Nat × List Value)} {b i : Nat} {v : Value} {vs : List Value} : upd ((b, vs) :: L) b i v = (b, vs.set i v) :: L := by simp [upd]
theorem upd_other {L : List (Nat × List Value)} {q b i : Nat} {v : Value} {vs : List Value} (h : q ≠ b) : upd ((q, vs) :: L) b i v = (q, vs) :: upd L b i v := by simp [upd, h]
theorem upd_fst {L : List (Nat × List Value)} {b i : Nat} {v : Value} : ∀ x ∈ upd L b i v, ∃ y ∈ L, x.1 = y.1 := by
  induction L with
  | nil => intro x hx; cases hx
  | cons y L ih =>
    obtain ⟨q, vs⟩ := y
    intro x hx
    unfold upd at hx
    split at hx
    · rcases List.mem_cons.1 hx with rfl | hx
      · exact ⟨(q, vs), by simp, rfl⟩
      · exact ⟨x, by simp [hx], rfl⟩
    · rcases List.mem_cons.1 hx with rfl | hx
      · exact ⟨(q, vs), by simp, rfl⟩
      · obtain ⟨y, hy, e⟩ := ih x hx
        exact ⟨y, by simp [hy], e⟩

section
variable {n : Nat} {B : World → Prop} {w w' : World}

theorem Own.stab : ∀ {L : List (Nat × List Value)}, Own n B w L → Stab n B
  | [], h => h.1
  | _ :: _, h => Own.stab h.2
theorem Own.base : ∀ {L : List (Nat × List Value)}, Own n B w L → B w
  | [], h => h.2
  | _ :: _, h => Own.base h.2
theorem Own.low {L : List (Nat × List Value)} (h : Own n B w L) : n ≤ w.heap.size := h.stab.low w h.base

theorem Own.below : ∀ {L : List (Nat × List Value)}, Own n B w L → Below w.heap.size w w' → Own n B w' L
  | [], h, hb => ⟨h.1, h.1.below _ _ h.2 hb⟩
  | (b, vs) :: L, ⟨⟨h1, h2, h3, h4⟩, h5⟩, hb => by
    obtain ⟨hc, hf⟩ := bcell hb
    exact ⟨⟨h1.imp fun j => ⟨hc _ _ h3, hf _ _ h3⟩, h2, Nat.lt_of_lt_of_le h3 hb.size, h4⟩, h5.below hb⟩

theorem Own.lt : ∀ {L : List (Nat × List Value)}, Own n B w L → ∀ x ∈ L, x.1 < w.heap.size
  | [], _, x, hx => by cases hx
  | (b, vs) :: L, ⟨⟨_, _, h3, _⟩, h5⟩, x, hx => by
    rcases List.mem_cons.1 hx with rfl | hx
    · exact h3
    · exact h5.lt x hx

theorem Own.drew {L : List (Nat × List Value)} (h : Own n B w L) : Own n B w.drew L := h.below (below_drew1 _)

theorem CellsAt.new {w : World} {t : TypeId} {vs : List Value} : CellsAt (w.alloc (.cells vs.toArray t)) w.heap.size 0 vs := by
  suffices h : ∀ (us : List Value) (i : Nat), (∀ j, us[j]? = vs[i + j]?) → CellsAt (w.alloc (.cells vs.toArray t)) w.heap.size i us from h vs 0 (fun j => by simp)
  intro us
  induction us with
  | nil => intro i _; exact trivial
  | cons u us ih =>
    intro i h
    have h0 := h 0
    simp at h0
    refine ⟨⟨?_, ?_⟩, ih (i + 1) (fun j => by have := h (j + 1); simpa [Nat.add_assoc, Nat.add_comm 1 j] using this)⟩
    · simp [← h0]
    · exact World.frozen?_alloc_at _ _ _ _ rfl

theorem Own.alloc {t : TypeId} {vs : List Value} {L : List (Nat × List Value)} (h : Own n B w L) : Own n B (w.alloc (.cells vs.toArray t)) ((w.heap.size, vs) :: L) :=
  ⟨⟨CellsAt.new, h.low, by simp, fun x hx => ⟨Nat.ne_of_lt (h.lt x hx), Nat.ne_of_gt (h.lt x hx)⟩⟩, h.below (below1 _)⟩

theorem Own.set0 {L : List (Nat × List Value)} {b i : Nat} {v : Value} (h : Own n B w L) (hb : n ≤ b) : Own n B (w.setCell ⟨b, i, none⟩ v) (upd L b i v) := by
  induction L with
  | nil => exact ⟨h.1, h.1.set _ _ _ h.2 hb⟩
  | cons x L ih =>
    obtain ⟨q, vs⟩ := x
    obtain ⟨⟨h1, h2, h3, h4⟩, h5⟩ := h
    by_cases hq : q = b
    · subst hq
      rw [upd_same]
      refine ⟨⟨by have := h1.set (k := i) (v := v); simpa using this, h2, by simpa using h3, h4⟩, ?_⟩
      clear ih h1
      induction L with
      | nil => exact ⟨h5.1, h5.1.set _ _ _ h5.2 hb⟩
      | cons y L ih2 =>
        obtain ⟨r, us⟩ := y
        obtain ⟨⟨g1, g2, g3, g4⟩, g5⟩ := h5
        have hr : r ≠ q := (h4 (r, us) (by simp)).1
        refine ⟨⟨g1.imp fun j => ⟨?_, by simp⟩, g2, by simpa using g3, g4⟩, ih2 g5 (fun z hz => h4 z (List.mem_cons_of_mem _ hz))⟩
        exact World.cell?_setCell_other w _ _ _ (fun e => hr (congrArg Addr.block e).symm)
    · rw [upd_other hq]
      refine ⟨⟨h1.imp fun j => ⟨?_, by simp⟩, h2, by simpa using h3, fun y hy => ?_⟩, ih h5⟩
      · exact World.cell?_setCell_other w _ _ _ (fun e => hq (congrArg Addr.block e).symm)
      · obtain ⟨z, hz, e⟩ := upd_fst y hy
        rw [e]; exact h4 z hz
theorem Own.set_at {L : List (Nat × List Value)} {b i : Nat} {v : Value} (hb : n ≤ b) (h : Own n B w L) : Own n B (w.setCell ⟨b, i, none⟩ v) (upd L b i v) := h.set0 hb
end

/-- A cell of a block that is owned, its number reckoned. -/
theorem CellsAt.get {w : World} {b : Nat} : ∀ {vs : List Value} {i j : Nat} {v : Value}, CellsAt w b i vs → vs[j]? = some v → w.cell? ⟨b, i + j, none⟩ = some v
  | [], _, _, _, _, h => by simp at h
  | x :: vs, i, 0, v, h, hv => by simp at hv; subst hv; exact h.1.1
  | x :: vs, i, j + 1, v, h, hv => by
    have := h.2.get (j := j) (by simpa using hv)
    rw [← this]; congr 2; omega
theorem Own.cells {n : Nat} {B : World → Prop} {w : World} {b : Nat} {vs : List Value} : ∀ {L : List (Nat × List Value)}, Own n B w L → (b, vs) ∈ L → CellsAt w b 0 vs
  | [], _, h => by cases h
  | (q, us) :: L, ⟨h1, h2⟩, h => by
    rcases List.mem_cons.1 h with e | h
    · cases e; exact h1.1
    · exact h2.cells h
/-- One of a row of numbers, its place reckoned. -/
theorem Own.int_at {n : Nat} {B : World → Prop} {w : World} {b : Nat} {x : Int} {L : List (Nat × List Value)} (us : List Int) (h : Own n B w L) (hm : (b, us.map (Value.int .i64)) ∈ L) (x0 : 0 ≤ x) (x1 : x < us.length) :
    w.cell? ⟨b, x.toNat, none⟩ = some (.int .i64 (us.getD x.toNat 0)) := by
  have hl : x.toNat < us.length := by omega
  have := (h.cells hm).get (j := x.toNat) (v := .int .i64 (us.getD x.toNat 0)) (by simp [List.getD_eq_getElem?_getD, List.getElem?_eq_getElem hl])
  simpa using this
theorem getD_mem {us : List Int} {x : Int} (x0 : 0 ≤ x) (x1 : x < us.length) : us.getD x.toNat 0 ∈ us := by
  have hl : x.toNat < us.length := by omega
  rw [List.getD_eq_getElem?_getD, List.getElem?_eq_getElem hl]
  simp
/-- The same with a name of its own. -/
theorem Own.int_some {n : Nat} {B : World → Prop} {w : World} {b : Nat} {x : Int} {L : List (Nat × List Value)} (us : List Int) (h : Own n B w L) (hm : (b, us.map (Value.int .i64)) ∈ L) (x0 : 0 ≤ x) (x1 : x < us.length) :
    ∃ u, u ∈ us ∧ w.cell? ⟨b, x.toNat, none⟩ = some (.int .i64 u) := ⟨_, getD_mem x0 x1, h.int_at us hm x0 x1⟩

/-- The base of an ordinary call: nothing that was there has turned. -/
theorem Stab.plain (w0 : World) : Stab w0.heap.size (Below w0.heap.size w0) :=
  ⟨fun _ h => h.size, fun _ _ h hb => btr h hb, fun _ _ _ h hp => h.setCell hp _⟩
theorem Own.start (w0 : World) : Own w0.heap.size (Below w0.heap.size w0) w0 [] := ⟨Stab.plain w0, Below.refl _ _⟩

/-- A call by its contract: the world behind it is a new one, in which all that is owned is as it was. -/
theorem own_call {P : Program} {f : FuncId} {args : Array Value} {n : Nat} {B : World → Prop} {W : World} {L : List (Nat × List Value)} {v : Value} {K : Ending → World → Prop}
    (hO : Own n B W L) (h : B W → Calls P f args W fun e w' => e = .returned v ∧ Below W.heap.size W w') (k : ∀ w1, Own n B w1 L → K (.returned v) w1) : Calls P f args W K :=
  (h hO.base).mono fun e w' ⟨he, hb⟩ => by subst he; exact k w' (hO.below hb)

theorem own_at {P : Program} {f : FuncId} {args : Array Value} {n : Nat} {B : World → Prop} {W : World} {L L0 : List (Nat × List Value)} {W0 : World} {K : Ending → World → Prop}
    (_ : Own n B W0 L0) (hO : Own n B W L) (k : Own n B W L → Calls P f args W K) : Calls P f args W K := k hO
theorem own_end {P : Program} {fn : Func} {R : Ending → World → Prop} {a : Act} {n : Nat} {B : World → Prop} {W : World} {L L0 : List (Nat × List Value)} {W0 : World}
    (_ : Own n B W0 L0) (hO : Own n B W L) (k : Own n B W L → bodyPost P fn R .ret a W) : bodyPost P fn R .ret a W := k hO
theorem own_code {P : Program} {c : Code} {Q : Exit → Act → World → Prop} {a : Act} {n : Nat} {B : World → Prop} {W : World} {L L0 : List (Nat × List Value)} {W0 : World}
    (_ : Own n B W0 L0) (hO : Own n B W L) (k : Own n B W L → c.wp P Q a W) : c.wp P Q a W := k hO
/-- A struct handed back: read in whatever world holds what is owned. -/
theorem own_ret {P : Program} {fn : Func} {R : Ending → World → Prop} {a : Act} {n : Nat} {B : World → Prop} {W : World} {L : List (Nat × List Value)} {v : Value}
    (hO : Own n B W L) (hr : ∀ w', Own n B w' L → (results fn a.tmps).run P w' = .ok v w') (hd : a.defers = []) (hR : Own n B W L → R (.returned v) W) : bodyPost P fn R .ret a W :=
  bodyPost_ret (hr W hO) hd (hR hO)
end Go.Proofs.YtjfkbhfdcdjeaaaDoor
