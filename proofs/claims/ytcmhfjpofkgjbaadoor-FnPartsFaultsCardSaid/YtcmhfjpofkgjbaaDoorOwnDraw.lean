/- What a call owns that draws from a reader: the reader's block moves on, nothing else that was there turns. -/
import Derived.Test.YtcmhfjpofkgjbaaDoorRegion
import Derived.Test.YtcmhfjpofkgjbaaDoorWalksPick
namespace Go.Proofs.YtcmhfjpofkgjbaaDoor
set_option linter.unusedSimpArgs false
set_option linter.unusedVariables false
set_option maxRecDepth 8000
open Go.RowKit

theorem XStab.rd {r : Nat} {P : Int} : XStab fun w => Rd w r P := fun _ _ h hb => h.below hb

theorem Stab.but {r : Nat} {w0 : World} (hr : r < w0.heap.size) : Stab w0.heap.size (ButR r w0) :=
  ⟨fun _ h => h.size, fun _ _ _ h hg hr => ⟨hg.os.trans h.os, hg.tape.trans h.tape, hg.output.trans h.output, Nat.le_trans h.size hg.size, fun k hk hkr =>
    (hg.block k (Nat.lt_of_lt_of_le hk h.size) (fun e => by have := (hr k e.symm).1; omega)).trans (h.block k hk hkr)⟩⟩

/-- The base of a call that draws: nothing but block r has turned, and it holds a reader that is at most P on. -/
def Bd (r : Nat) (w0 : World) (P : Int) (w : World) : Prop := ButR r w0 w ∧ Rd w r P
theorem Stab.bd {r : Nat} {w0 : World} {P : Int} (hr : r < w0.heap.size) : Stab w0.heap.size (Bd r w0 P) :=
  ⟨fun _ h => h.1.size, fun w w' q h hg hq => ⟨(Stab.but hr).grown w w' q h.1 hg hq, h.2.keep ⟨hg.os, hg.tape, hg.output, hg.size, fun k hk =>
    hg.block k (Nat.lt_of_lt_of_le (show k < w0.heap.size by omega) h.1.size) (fun e => by have := (hq k e.symm).1; omega)⟩⟩⟩
theorem Own.startD {w0 : World} {r : Nat} {P : Int} (h : Rd w0 r P) : Own w0.heap.size (Bd r w0 P) w0 [] := ⟨Stab.bd h.lt, ButR.refl _ _, h⟩

/-- The reader has moved on: what is owned is as it was. -/
theorem ButR.grown {r : Nat} {w w' : World} (h : ButR r w w') : w.grownBy w' (some r) := ⟨h.os, h.tape, h.output, h.size, fun k hk hr => h.block k hk (fun e => hr (by rw [e]))⟩
theorem Own.but {n r : Nat} {B B' : World → Prop} {w w' : World} (hr : r < n) (hs : Stab n B') (hB : B' w') (hb : ButR r w w') : ∀ {L : List Item}, Own n B w L → Own n B' w' L
  | [], _ => ⟨hs, hB⟩
  | _ :: _, ⟨⟨h1, h2⟩, h3⟩ => ⟨⟨h1.grown hb.grown fun g hg e => by cases e; have := (h1.lt _ hg).1; omega, h2⟩, h3.but hr hs hB hb⟩
/-- The base turned for another that holds, too. -/
theorem Own.rebase {n : Nat} {B B' : World → Prop} {w : World} (hs : Stab n B') (hB : B w → B' w) : ∀ {L : List Item}, Own n B w L → Own n B' w L
  | [], h => ⟨hs, hB h.2⟩
  | _ :: _, h => ⟨h.1, h.2.rebase hs hB⟩
theorem Own.mono {r : Nat} {w0 w : World} {P Q : Int} {L : List Item} (h : Own w0.heap.size (Bd r w0 P) w L) (hr : r < w0.heap.size) (hq : P ≤ Q) : Own w0.heap.size (Bd r w0 Q) w L :=
  h.rebase (Stab.bd hr) fun h => ⟨h.1, h.2.mono hq⟩

theorem own_pick {r : Nat} {w0 W : World} {P k : Int} {L : List Item} {K : Ending → World → Prop} (hO : Own w0.heap.size (Bd r w0 P) W L) (hr : r < w0.heap.size) (hP : P ≤ 1000000) (k0 : 1 ≤ k) (k1 : k ≤ 1000000)
    (h : ∀ (x : Int) w1, 0 ≤ x → x < k → Own w0.heap.size (Bd r w0 (P + 1)) w1 L → K (.returned (.int .i64 x)) w1) :
    Calls Tryd.prog 43 #[.pointer (some ⟨r, 0, none⟩), .int .i64 k] W K :=
  (pick_any r P k W hO.base.2 hP k0 k1).mono fun e w1 ⟨x, x0, x1, he, hR, hb⟩ => by
    subst he
    exact h x w1 x0 x1 (hO.but hr (Stab.bd hr) ⟨hO.base.1.trans hb, hR⟩ hb)

theorem own_odd {r : Nat} {w0 W : World} {P k : Int} {L : List Item} {K : Ending → World → Prop} (hO : Own w0.heap.size (Bd r w0 P) W L) (hr : r < w0.heap.size) (hP : P ≤ 1000000) (k0 : 0 ≤ k) (k1 : k ≤ 1000000)
    (h : ∀ (x : Bool) w1, Own w0.heap.size (Bd r w0 (P + 1)) w1 L → K (.returned (.bool x)) w1) :
    Calls Tryd.prog 49 #[.pointer (some ⟨r, 0, none⟩), .int .i64 k] W K :=
  (odd_any r P k W hO.base.2 hP k0 k1).mono fun e w1 ⟨x, he, hR, hb⟩ => by
    subst he
    exact h x w1 (hO.but hr (Stab.bd hr) ⟨hO.base.1.trans hb, hR⟩ hb)

/-- A reader that was made by the call moves on: what else is owned is as it was. -/
theorem Own.drawn {r : Nat} {w0 w w' : World} (hb : ButR r w w') (hr : w0.heap.size ≤ r) : ∀ {L : List Item}, (∀ x ∈ L, x.at? ≠ some r) → Own w0.heap.size (Below w0.heap.size w0) w L → Own w0.heap.size (Below w0.heap.size w0) w' L
  | [], _, h => ⟨h.1, hb.below h.2 hr⟩
  | it :: L, hL, ⟨⟨h1, h2⟩, h3⟩ => ⟨⟨h1.grown hb.grown fun g hg e => hL it (by simp) (by rw [hg, e]), h2⟩, h3.drawn hb hr (fun x hx => hL x (List.mem_cons_of_mem _ hx))⟩
theorem Own.ne_of {n r : Nat} {B : World → Prop} {w : World} {L : List Item} (h : Own n B w L) (hr : w.heap.size ≤ r) : ∀ x ∈ L, x.at? ≠ some r := fun x hx e => by have := (h.lt x hx r e).2; omega
end Go.Proofs.YtcmhfjpofkgjbaaDoor
