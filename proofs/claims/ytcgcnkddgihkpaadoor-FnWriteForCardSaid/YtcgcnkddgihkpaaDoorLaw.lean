/- What closes every law of this seat: a call that answers true and turns nothing that was there meets the row. -/
import Derived.Test.YtcgcnkddgihkpaaDoorRows
import Derived.ProofKit
import Derived.Lib.SmallJoins
import Derived.Lib.LaidTab
import Derived.LaidMore
import Derived.LaidSub
import Derived.OpenShut
import Derived.Stop.Joined
import Derived.MakeChecks
import Derived.Carry
namespace Go.Proofs.YtcgcnkddgihkpaaDoor
set_option linter.unusedSimpArgs false
set_option linter.unusedVariables false
set_option maxRecDepth 8000
open Go.ChangeShapes Go.WideShapes Go.ChangeAt Go.RowKit Go.Joins

theorem own : ownKnob Tryd.prog.godebug = none := by kernel_rfl
theorem laidOut : laidOutB Tryd.prog = true := by kernel_rfl

section
variable {H : Type} {enc : TypeId × Value → H} {P : Program}

/-- A type that can be read, in the book of types. -/
def okT (P : Program) (t : TypeId) : Bool := P.readableRec t && decide (t < P.types.size)

theorem trodAll_stays (hl : laidOutB P = true) {W W' : World} (hb : Below W.heap.size W W') : ∀ {ts : List TypeId} {vs : List Value} {ds : List (DataW H)} {ps : List MemPlace},
    ts.all (okT P) = true → DataW.TrodAll enc P W 0 (fun _ => true) true ts vs ds ps → DataW.TrodAll enc P W' 0 (fun b => decide (b < W.heap.size)) true ts vs ds ps
  | [], [], [], _, _, h => h
  | t :: ts, v :: vs, d :: ds, ps, ht, h => by
    obtain ⟨p, q, h1, h2, rfl⟩ := h
    simp only [List.all_cons, okT, Bool.and_eq_true, decide_eq_true_eq] at ht
    have hlt := DataW.TrodAll.lt (ts := t :: ts) (vs := v :: vs) (ds := d :: ds) (ps := p ++ q) ⟨p, q, h1, h2, rfl⟩
    refine ⟨p, q, Below.trod hl ht.1.1 ht.1.2 h1 hb (fun x hx => hlt x (by simp [hx])), trodAll_stays hl hb ?_ h2, rfl⟩
    exact ht.2
  | [], [], _ :: _, _, _, h => by cases h
  | [], _ :: _, _, _, _, h => by cases h
  | _ :: _, [], _, _, _, h => by cases h
  | _ :: _, _ :: _, [], _, _, h => by cases h

theorem trodVars_stays (hl : laidOutB P = true) {W W' : World} (hb : Below W.heap.size W W') : ∀ {ns : List String} {gs : List (DataW H)} {ps : List MemPlace},
    (ns.all fun n => match P.globalNamed n with | some g => (match P.globals[g]? with | some x => okT P x.type | none => true) | none => true) = true →
    DataW.TrodVars enc P W (fun _ => true) ns gs ps → DataW.TrodVars enc P W' (fun b => decide (b < W.heap.size)) ns gs ps
  | [], [], _, _, h => h
  | n :: ns, d :: ds, ps, ht, h => by
    have hlt := DataW.TrodVars.lt h
    obtain ⟨g, t, cs, fuel, p, q, hg, hty, hv, hd, h2, rfl⟩ := h
    simp only [List.all_cons, Bool.and_eq_true] at ht
    obtain ⟨ht1, ht2⟩ := ht
    rw [hg] at ht1
    obtain ⟨x, hx, hxt⟩ := Option.map_eq_some_iff.1 hty
    simp only [hx, hxt, okT, Bool.and_eq_true, decide_eq_true_eq] at ht1
    have hd' : DataW.Trod enc P W' 0 (fun b => decide (b < W.heap.size)) true t (.agg cs) d p :=
      Below.trod hl ht1.1 ht1.2 ⟨fuel, hd⟩ hb (fun x hx => hlt x (by simp [hx]))
    obtain ⟨fuel', hd'⟩ := hd'
    exact ⟨g, t, cs, fuel', p, q, hg, hty, var_stays hg hv hb (Nat.le_refl _), hd', trodVars_stays hl hb ht2 h2, rfl⟩
  | [], _ :: _, _, _, h => by cases h
  | _ :: _, [], _, _, h => by cases h

/-- THE LAW's END: the call has answered true; nothing that was there has turned. -/
theorem law_post {f : Func} {s : ChangeSpec} {W W' : World} {args : Array Value} {ds gs : List (DataW H)} {before : List MemPlace} {tb : TypeId} (hl : laidOutB P = true) (hrt : f.resultTypes = #[tb]) (hbool : P.underlying tb = some .bool)
    (hts : f.params.toList.all (okT P) = true)
    (hvs : (s.vars.all fun n => match P.globalNamed n with | some g => (match P.globals[g]? with | some x => okT P x.type | none => true) | none => true) = true)
    (hW : DataW.Whole enc P f.params.toList s.vars false W args.toList ds gs before)
    (e1 : (s.fn H (ds ++ gs)).results = [.lit (.bool true)]) (e2 : (s.fn H (ds ++ gs)).args = ds) (e3 : (s.fn H (ds ++ gs)).vars = gs)
    (hb : Below W.heap.size W W') : s.post enc P f false true false false W args (.bool true) W' := by
  have hW' := hW
  obtain ⟨p, q, hA, hV, rfl, hfz, hnd⟩ := hW
  refine ⟨ds, gs, p ++ q, [], p, q, hW', ?_, ?_, ?_, hb.frame _, fun h => by cases h⟩
  · rw [e1, hrt]
    exact trodAll_mk1 (shut_bool hbool true)
  · rw [e2]; exact trodAll_stays hl hb hts hA
  · rw [e3]; exact trodVars_stays hl hb hvs hV
end
/-- a number that can be read has 64 bits. -/
theorem wf64 {x : Int} (h : (Lit.int .i64 x).wf = true) : -9223372036854775808 ≤ x ∧ x ≤ 9223372036854775807 := by
  simp [Lit.wf] at h
  have e0 : IntKind.i64.min = -9223372036854775808 := rfl
  have e1 : IntKind.i64.max = 9223372036854775807 := rfl
  omega

/- Two named variables of a specification: their data are two. No program in it. -/
open Go.ChangeShapes Go.WideShapes Go.ChangeAt Go.RowKit Go.Joins

theorem vars_two {H : Type} {enc : TypeId × Value → H} {P : Program} {w : World} {spare : Nat → Bool} {n m : String} {gs : List (DataW H)} {ps : List MemPlace}
    (h : DataW.TrodVars enc P w spare [n, m] gs ps) : ∃ d e, gs = [d, e] := by
  match gs, h with
  | [], h => cases h
  | [d], h =>
    obtain ⟨_, _, _, _, _, _, _, _, _, _, h2, _⟩ := h
    cases h2
  | [d, e], _ => exact ⟨d, e, rfl⟩
  | d :: e :: x :: xs, h =>
    obtain ⟨_, _, _, _, _, _, _, _, _, _, h2, _⟩ := h
    obtain ⟨_, _, _, _, _, _, _, _, _, _, h3, _⟩ := h2
    cases h3
theorem vars_cons {H : Type} {enc : TypeId × Value → H} {P : Program} {w : World} {spare : Nat → Bool} {n : String} {ns : List String} {gs : List (DataW H)} {ps : List MemPlace}
    (h : DataW.TrodVars enc P w spare (n :: ns) gs ps) : ∃ d ds q, gs = d :: ds ∧ DataW.TrodVars enc P w spare ns ds q := by
  match gs, h with
  | [], h => cases h
  | d :: ds, h =>
    obtain ⟨_, _, _, _, _, q, _, _, _, _, h2, _⟩ := h
    exact ⟨d, ds, q, rfl, h2⟩
theorem vars_three {H : Type} {enc : TypeId × Value → H} {P : Program} {w : World} {spare : Nat → Bool} {n m l : String} {gs : List (DataW H)} {ps : List MemPlace}
    (h : DataW.TrodVars enc P w spare [n, m, l] gs ps) : ∃ d e f, gs = [d, e, f] := by
  obtain ⟨d, ds, q, rfl, h2⟩ := vars_cons h
  obtain ⟨e, f, rfl⟩ := vars_two h2
  exact ⟨d, e, f, rfl⟩
end Go.Proofs.YtcgcnkddgihkpaaDoor
