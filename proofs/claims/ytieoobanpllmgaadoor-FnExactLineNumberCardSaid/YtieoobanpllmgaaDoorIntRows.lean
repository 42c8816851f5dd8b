/- Rows of integers in memory: a slice of slices of integers that a call has made. -/
import Derived.Test.YtieoobanpllmgaaDoorIntC
import Derived.Test.YtieoobanpllmgaaDoorStks
import Derived.Test.YtieoobanpllmgaaDoorOwn
namespace Go.Proofs.YtieoobanpllmgaaDoor
set_option linter.unusedSimpArgs false
set_option linter.unusedVariables false
set_option maxRecDepth 8000
open Go.RowKit

/-- The rows: a value, its numbers. -/
def rwN (es : List (Value × List Int)) : List Item := es.map fun p => .row 3 1 p.1 p.2.length (intC p.2)
theorem rwN_append (a b : List (Value × List Int)) : rwN (a ++ b) = rwN a ++ rwN b := by simp [rwN]
theorem rwN_cons (p : Value × List Int) (b : List (Value × List Int)) : rwN (p :: b) = .row 3 1 p.1 p.2.length (intC p.2) :: rwN b := rfl
abbrev vsN (es : List (Value × List Int)) : List Value := es.map (·.1)
abbrev lsN (es : List (Value × List Int)) : List (List Int) := es.map (·.2)
/-- What a call that hands back rows of integers leaves. -/
def NtOut (ll : List (List Int)) (w : World) (e : Ending) (w' : World) : Prop :=
  ∃ (v : Value) (es : List (Value × List Int)), e = .returned v ∧ lsN es = ll ∧ Own w.heap.size (Below w.heap.size w) w' (.row 60 1 v es.length (vsN es) :: rwN es)
theorem own_take {n : Nat} {B : World → Prop} {w : World} : ∀ {U L : List Item}, Own n B w (U ++ L) → Own n B w U
  | [], _, h => ⟨h.stab, h.base⟩
  | _ :: _, _, h => ⟨⟨h.1.1, fun y hy => h.1.2 y (List.mem_append_left _ hy)⟩, own_take h.2⟩
theorem NtOut.mk {w w' : World} {v : Value} {es : List (Value × List Int)} {ll : List (List Int)} {k : Nat} (hl : lsN es = ll) (hk : es.length = k) {L : List Item} (h : Own w.heap.size (Below w.heap.size w) w' (.row 60 1 v k (vsN es) :: (rwN es ++ L))) : NtOut ll w (.returned v) w' := by
  subst hk
  exact ⟨v, es, rfl, hl, own_take (U := .row 60 1 v es.length (vsN es) :: rwN es) h⟩
theorem own_call_nt {P : Program} {f : FuncId} {args : Array Value} {n : Nat} {B : World → Prop} {W : World} {L : List Item} {ll : List (List Int)} {K : Ending → World → Prop}
    (hO : Own n B W L) (h : B W → Calls P f args W (NtOut ll W)) (k' : ∀ v es w1, lsN es = ll → Own n B w1 (.row 60 1 v es.length (vsN es) :: (rwN es ++ L)) → K (.returned v) w1) : Calls P f args W K :=
  (h hO.base).mono fun e w1 ⟨v, es, he, hE, ho⟩ => by subst he; exact k' v es w1 hE (hO.joinP ho)
theorem infoNt : (Tryd.prog.info? 60).map (fun i => (i.zero, i.size, i.bytes)) = some (some (.slice none 0 0), 1, 24) := by kernel_rfl
theorem one1n {A : Option Addr} {k c : Nat} : ∀ u ∈ [Value.slice A k c], u.oneCell' = true := by
  intro u hu
  simp at hu
  subst hu
  rfl
theorem nt_snoc {n : Nat} {B : World → Prop} {w : World} {v V : Value} {es : List (Value × List Int)} {s : List Int} {L : List Item} (h : Own n B w (.row 60 1 v (es.length + 1) (vsN es ++ [V]) :: .row 3 1 V s.length (intC s) :: (rwN es ++ L))) :
    Own n B w (.row 60 1 v (es ++ [(V, s)]).length (vsN (es ++ [(V, s)])) :: (rwN (es ++ [(V, s)]) ++ L)) := by
  have e1 : vsN (es ++ [(V, s)]) = vsN es ++ [V] := by simp [vsN]
  have e2 : rwN (es ++ [(V, s)]) = rwN es ++ [.row 3 1 V s.length (intC s)] := by rw [rwN_append]; rfl
  rw [e1, e2, List.length_append, List.append_assoc]
  exact h.perm (List.Perm.cons _ (List.perm_middle (l₁ := rwN es)).symm)
/-- One row comes to the head; it goes back. -/
theorem nt_head {n : Nat} {B : World → Prop} {w : World} {s : Item} {U V : List (Value × List Int)} {p : Value × List Int} {R : List Item} (h : Own n B w (s :: (rwN (U ++ p :: V) ++ R))) :
    Own n B w (.row 3 1 p.1 p.2.length (intC p.2) :: s :: (rwN U ++ (rwN V ++ R))) := by
  rw [rwN_append, rwN_cons, List.append_assoc] at h
  have h1 : (s :: (rwN U ++ (.row 3 1 p.1 p.2.length (intC p.2) :: rwN V ++ R))).Perm (.row 3 1 p.1 p.2.length (intC p.2) :: s :: (rwN U ++ (rwN V ++ R))) :=
    (List.Perm.cons s (List.perm_middle (a := .row 3 1 p.1 p.2.length (intC p.2)) (l₁ := rwN U) (l₂ := rwN V ++ R))).trans (List.Perm.swap _ _ _)
  exact h.perm h1
theorem nt_back {n : Nat} {B : World → Prop} {w : World} {s : Item} {U V : List (Value × List Int)} {p : Value × List Int} {R : List Item} (h : Own n B w (.row 3 1 p.1 p.2.length (intC p.2) :: s :: (rwN U ++ (rwN V ++ R)))) :
    Own n B w (s :: (rwN (U ++ p :: V) ++ R)) := by
  rw [rwN_append, rwN_cons, List.append_assoc]
  have h1 : (s :: (rwN U ++ (.row 3 1 p.1 p.2.length (intC p.2) :: rwN V ++ R))).Perm (.row 3 1 p.1 p.2.length (intC p.2) :: s :: (rwN U ++ (rwN V ++ R))) :=
    (List.Perm.cons s (List.perm_middle (a := .row 3 1 p.1 p.2.length (intC p.2)) (l₁ := rwN U) (l₂ := rwN V ++ R))).trans (List.Perm.swap _ _ _)
  exact h.perm h1.symm
theorem split_at15 {es : List (Value × List Int)} {k : Nat} {p : Value × List Int} (h : es[k]? = some p) : ∃ U V, es = U ++ p :: V ∧ U.length = k := by
  obtain ⟨h1, rfl⟩ := List.getElem?_eq_some_iff.1 h
  refine ⟨es.take k, es.drop (k + 1), ?_, by rw [List.length_take]; omega⟩
  rw [← List.drop_eq_getElem_cons h1, List.take_append_drop]
/-- The cells of a row of integers among what is owned. -/
theorem nt_cell {n : Nat} {B : World → Prop} {w : World} {L : List Item} {q k cap j : Nat} {l : List Int} {z : Int} (h : Own n B w L) (hm : Item.row 3 1 (.slice (some ⟨q, 0, none⟩) k cap) k (intC l) ∈ L) (hz : l[j]? = some z) : w.cell? ⟨q, j, none⟩ = some (.int .i64 z) := by
  have h1 := SlAt.of_row (h.holds _ hm : w.ownsRow n 3 1 (.slice (some ⟨q, 0, none⟩) k cap) k (intC l))
  have h2 := h1.cellAt (intC_get hz)
  rwa [Nat.zero_add] at h2
theorem nt_set {l : List Int} {i : Nat} {z : Int} : (intC l).set i (.int .i64 z) = intC (l.set i z) := by unfold intC; rw [List.map_set]
/-- The form of a row's value. -/
theorem nt_form {n : Nat} {B : World → Prop} {w : World} {L : List Item} {v : Value} {k : Nat} {xs : List Value} (h : Own n B w L) (hm : Item.row 3 1 v k xs ∈ L) (hk : 0 < k) : ∃ q cap, v = .slice (some ⟨q, 0, none⟩) k cap ∧ k ≤ cap ∧ cap ≤ maxLen := by
  rcases (h.holds _ hm : w.ownsRow n 3 1 v k xs).2 with ⟨_, h2⟩ | ⟨q, cap, cur, h3, _, _, h6, h7, _⟩
  · omega
  · exact ⟨q, cap, h3, h6, h7⟩
end Go.Proofs.YtieoobanpllmgaaDoor
