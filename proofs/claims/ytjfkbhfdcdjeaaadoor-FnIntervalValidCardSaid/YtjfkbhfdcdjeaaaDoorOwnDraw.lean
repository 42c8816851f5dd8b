/- What a call owns that draws from a reader: the reader's block moves on, nothing else that was there turns. -/
import Derived.Test.YtjfkbhfdcdjeaaaDoorRegion
import Derived.Test.YtjfkbhfdcdjeaaaDoorWalksPick
namespace Go.Proofs.YtjfkbhfdcdjeaaaDoor
set_option linter.unusedSimpArgs false
set_option linter.unusedVariables false
open Go.RowKit

theorem XStab.rd {r : Nat} {P : Int} : XStab fun w => Rd w r P := fun _ _ h hb => h.below hb

theorem Stab.but {r : Nat} {w0 : World} (hr : r < w0.heap.size) : Stab w0.heap.size (ButR r w0) :=
  ⟨fun _ h => h.size, fun _ _ h hb => h.trans (.of_below hb), fun _ _ _ h hp => h.setCell (Or.inl hp) _⟩

/-- The base of a call that draws: nothing but block r has turned, and it holds a reader that is at most P on. -/
def Bd (r : Nat) (w0 : World) (P : Int) (w : World) : Prop := ButR r w0 w ∧ Rd w r P
theorem Stab.bd {r : Nat} {w0 : World} {P : Int} (hr : r < w0.heap.size) : Stab w0.heap.size (Bd r w0 P) :=
  ⟨fun _ h => h.1.size, fun _ _ h hb => ⟨h.1.trans (.of_below hb), h.2.below hb⟩, fun _ _ _ h hp => ⟨h.1.setCell (Or.inl hp) _, h.2.keep ((Below.refl _ _).setCell (by omega) _)⟩⟩
theorem Own.startD {w0 : World} {r : Nat} {P : Int} (h : Rd w0 r P) : Own w0.heap.size (Bd r w0 P) w0 [] := ⟨Stab.bd h.lt, ButR.refl _ _, h⟩

/-- The reader has moved on: what is owned is as it was. -/
theorem Own.but {n r : Nat} {B B' : World → Prop} {w w' : World} (hr : r < n) (hs : Stab n B') (hB : B' w') (hb : ButR r w w') : ∀ {L : List (Nat × List Value)}, Own n B w L → Own n B' w' L
  | [], _ => ⟨hs, hB⟩
  | (b, vs) :: L, ⟨⟨h1, h2, h3, h4⟩, h5⟩ => by
    obtain ⟨hc, hf⟩ := hb.cells
    exact ⟨⟨h1.imp fun j => ⟨hc _ _ h3 (by omega), hf _ _ h3 (by omega)⟩, h2, Nat.lt_of_lt_of_le h3 hb.size, h4⟩, h5.but hr hs hB hb⟩
/-- The base turned for another that holds, too. -/
theorem Own.rebase {n : Nat} {B B' : World → Prop} {w : World} (hs : Stab n B') (hB : B w → B' w) : ∀ {L : List (Nat × List Value)}, Own n B w L → Own n B' w L
  | [], h => ⟨hs, hB h.2⟩
  | _ :: _, h => ⟨h.1, h.2.rebase hs hB⟩
theorem Own.mono {r : Nat} {w0 w : World} {P Q : Int} {L : List (Nat × List Value)} (h : Own w0.heap.size (Bd r w0 P) w L) (hr : r < w0.heap.size) (hq : P ≤ Q) : Own w0.heap.size (Bd r w0 Q) w L :=
  h.rebase (Stab.bd hr) fun h => ⟨h.1, h.2.mono hq⟩

theorem own_pick {r : Nat} {w0 W : World} {P k : Int} {L : List (Nat × List Value)} {K : Ending → World → Prop} (hO : Own w0.heap.size (Bd r w0 P) W L) (hr : r < w0.heap.size) (hP : P ≤ 1000000) (k0 : 1 ≤ k) (k1 : k ≤ 1000000)
    (h : ∀ (x : Int) w1, 0 ≤ x → x < k → Own w0.heap.size (Bd r w0 (P + 1)) w1 L → K (.returned (.int .i64 x)) w1) :
    Calls Tryd.prog 59 #[.pointer (some ⟨r, 0, none⟩), .int .i64 k] W K :=
  (pick_any r P k W hO.base.2 hP k0 k1).mono fun e w1 ⟨x, x0, x1, he, hR, hb⟩ => by
    subst he
    exact h x w1 x0 x1 (hO.but hr (Stab.bd hr) ⟨hO.base.1.trans hb, hR⟩ hb)

theorem own_odd {r : Nat} {w0 W : World} {P k : Int} {L : List (Nat × List Value)} {K : Ending → World → Prop} (hO : Own w0.heap.size (Bd r w0 P) W L) (hr : r < w0.heap.size) (hP : P ≤ 1000000) (k0 : 0 ≤ k) (k1 : k ≤ 1000000)
    (h : ∀ (x : Bool) w1, Own w0.heap.size (Bd r w0 (P + 1)) w1 L → K (.returned (.bool x)) w1) :
    Calls Tryd.prog 60 #[.pointer (some ⟨r, 0, none⟩), .int .i64 k] W K :=
  (odd_any r P k W hO.base.2 hP k0 k1).mono fun e w1 ⟨x, he, hR, hb⟩ => by
    subst he
    exact h x w1 (hO.but hr (Stab.bd hr) ⟨hO.base.1.trans hb, hR⟩ hb)

/-- A reader that was made by the call moves on: what else is owned is as it was. -/
theorem Own.drawn {r : Nat} {w0 w w' : World} (hb : ButR r w w') (hr : w0.heap.size ≤ r) : ∀ {L : List (Nat × List Value)}, (∀ x ∈ L, x.1 ≠ r) → Own w0.heap.size (Below w0.heap.size w0) w L → Own w0.heap.size (Below w0.heap.size w0) w' L
  | [], _, h => ⟨h.1, hb.below h.2 hr⟩
  | (b, vs) :: L, hL, ⟨⟨h1, h2, h3, h4⟩, h5⟩ => by
    obtain ⟨hc, hf⟩ := hb.cells
    have hne := hL (b, vs) (by simp)
    exact ⟨⟨h1.imp fun j => ⟨hc _ _ h3 hne, hf _ _ h3 hne⟩, h2, Nat.lt_of_lt_of_le h3 hb.size, h4⟩, h5.drawn hb hr (fun x hx => hL x (List.mem_cons_of_mem _ hx))⟩
theorem Own.ne_of {n r : Nat} {B : World → Prop} {w : World} {L : List (Nat × List Value)} (h : Own n B w L) (hr : w.heap.size ≤ r) : ∀ x ∈ L, x.1 ≠ r := fun x hx => by have := h.lt x hx; omega
end Go.Proofs.YtjfkbhfdcdjeaaaDoor
