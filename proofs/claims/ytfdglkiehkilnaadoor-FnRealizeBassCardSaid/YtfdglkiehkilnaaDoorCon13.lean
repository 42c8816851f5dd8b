/- What the functions of chapter 13 answer, as contracts. -/
import Derived.Test.YtfdglkiehkilnaaDoorWalks13S
import Derived.Test.YtfdglkiehkilnaaDoorStks
namespace Go.Proofs.YtfdglkiehkilnaaDoor
set_option linter.unusedSimpArgs false
set_option linter.unusedVariables false
set_option maxRecDepth 8000
open Go.RowKit

def CRf (h : FuncId) (w : World) : Prop := ∀ (f : Int) (vb vg vl : Value) (bs : List Pt) (gs : List Int) (ll : List (List Pt)) (W : World), Below w.heap.size w W → r64 f → SlAt W vb bs.length 3 (pcC bs) → SlAt W vg gs.length 1 (intC gs) → StkR W vl ll →
  bs.length ≤ 1048576 → gs.length ≤ 1048576 → ll.length ≤ 1048576 → (∀ x ∈ bs, p64s x) → (∀ g ∈ gs, r64 g) → (∀ l ∈ ll, l.length ≤ 1048576) → (∀ l ∈ ll, ∀ x ∈ l, p64s x) →
  Calls Tryd.prog h #[.int .i64 f, vb, vg, vl] W fun e w' => e = .returned (.int .i64 (rfZ f bs gs ll)) ∧ Below W.heap.size W w'
theorem CRf.to {h : FuncId} {w wd : World} (hc : CRf h w) (hb : Below w.heap.size w wd) : CRf h wd := fun f vb vg vl bs gs ll W hW => hc f vb vg vl bs gs ll W (btr hb hW)

/- Realized basses. -/
noncomputable def rzL (f : Int) (bs : List Pt) (gs : List Int) : List (List Pt) := (rzZ f bs gs).getD []
noncomputable def rzB (f : Int) (bs : List Pt) (gs : List Int) : Bool := (rzZ f bs gs).isSome
theorem rzB_yes {f : Int} {bs : List Pt} {gs : List Int} (h : rzB f bs gs = true) : rzZ f bs gs = some (rzL f bs gs) := by
  unfold rzB at h
  unfold rzL
  obtain ⟨x, hx⟩ := Option.isSome_iff_exists.1 h
  rw [hx]; rfl
theorem rzB_no {f : Int} {bs : List Pt} {gs : List Int} (h : rzB f bs gs = false) : rzL f bs gs = [] := by
  unfold rzB at h
  unfold rzL
  rw [Option.isSome_eq_false_iff.1 h |> Option.isNone_iff_eq_none.1]; rfl
/-- What a call that hands back chords and a flag leaves. -/
def StkOutB (ll : List (List Pt)) (b : Bool) (w : World) (e : Ending) (w' : World) : Prop :=
  ∃ (v : Value) (es : List (Value × List Pt)), e = .returned (.tuple #[v, .bool b]) ∧ lsO es = ll ∧ Own w.heap.size (Below w.heap.size w) w' (.row 23 1 v es.length (vsO es) :: rwP es)
theorem own_call_stkB {P : Program} {f : FuncId} {args : Array Value} {n : Nat} {B : World → Prop} {W : World} {L : List Item} {ll : List (List Pt)} {b : Bool} {K : Ending → World → Prop}
    (hO : Own n B W L) (h : B W → Calls P f args W (StkOutB ll b W)) (k' : ∀ v es w1, lsO es = ll → Own n B w1 (.row 23 1 v es.length (vsO es) :: (rwP es ++ L)) → K (.returned (.tuple #[v, .bool b])) w1) : Calls P f args W K :=
  (h hO.base).mono fun e w1 ⟨v, es, he, hE, ho⟩ => by subst he; exact k' v es w1 hE (hO.joinP ho)
def CRz (h : FuncId) (w : World) : Prop := ∀ (f : Int) (vb vg : Value) (bs : List Pt) (gs : List Int) (W : World), Below w.heap.size w W → r64 f → SlAt W vb bs.length 3 (pcC bs) → SlAt W vg gs.length 1 (intC gs) → bs.length ≤ 1048576 → gs.length ≤ 1048576 → (∀ x ∈ bs, p64s x) → (∀ g ∈ gs, r64 g) →
  Calls Tryd.prog h #[.int .i64 f, vb, vg] W (StkOutB (rzL f bs gs) (rzB f bs gs) W)
theorem CRz.to {h : FuncId} {w wd : World} (hc : CRz h w) (hb : Below w.heap.size w wd) : CRz h wd := fun f vb vg bs gs W hW => hc f vb vg bs gs W (btr hb hW)
end Go.Proofs.YtfdglkiehkilnaaDoor
