/- A table of tables of integers, laid: its cells in one row. No program in it. -/
import Derived.Test.YtcgcnkddgihkpaaDoorPure1
import Derived.Lib.LaidTab
namespace Go.Proofs.YtcgcnkddgihkpaaDoor
set_option linter.unusedSimpArgs false
set_option linter.unusedVariables false
set_option maxRecDepth 8000
open Go.RowKit

/-- The table as a row lists it: an array of arrays of integers. -/
def nestData {H : Type} (k : IntKind) (zss : List (List Int)) : DataW H := .agg (zss.map fun zs => Lib.tabData k zs)

/-- A row cut into pieces of one size is the pieces, one behind the other. -/
theorem flat_of_pieces {α : Type} (m : Nat) : ∀ (zss : List (List α)) (cs : List α), cs.length = zss.length * m → (∀ i zs, zss[i]? = some zs → (cs.drop (i * m)).take m = zs) → cs = zss.flatten
  | [], cs, hl, _ => by simpa using List.eq_nil_of_length_eq_zero (by simpa using hl)
  | zs :: zss, cs, hl, h => by
    have h0 := h 0 zs rfl
    simp at h0
    have hr := flat_of_pieces m zss (cs.drop m) (by simp [hl, Nat.add_mul]) (fun i us hi => by
      have := h (i + 1) us (by simpa using hi)
      rw [List.drop_drop]
      rw [show m + i * m = (i + 1) * m by rw [Nat.add_mul]; omega]
      exact this)
    rw [List.flatten_cons, ← hr, ← h0, List.take_append_drop]

theorem cells_of_nest {H : Type} {enc : TypeId × Value → H} {P : Program} {w : World} {base : Nat} {sp : Nat → Bool} {held : Bool} {fuel : Nat} {t e i : TypeId} {n m : Nat} {k : IntKind} {cs : List Value} {zss : List (List Int)} {p : List MemPlace}
    (ht : P.underlying t = some (.array n e)) (he : P.underlying e = some (.array m i)) (hi : P.underlying i = some (.int k)) (hci : P.cellsOf i = 1) (hce : P.cellsOf e = m) (hct : P.cellsOf t = n * m)
    (h : DataW.trod enc P w base sp held fuel t cs = some (nestData k zss, p)) : cs = zss.flatten.map fun z => Value.int k z := by
  cases fuel with
  | zero => simp [DataW.trod] at h
  | succ fuel =>
    simp only [DataW.trod, ht, hce, hct] at h
    split at h
    · rename_i hl
      obtain ⟨xs, hm, hx⟩ := Option.map_eq_some_iff.1 h
      have hxs : xs.map (·.1) = zss.map fun zs => (Lib.tabData k zs : DataW H) := by
        have := congrArg Prod.fst hx
        simpa [nestData] using this
      have hxl : xs.length = n := by simpa using Lib.mapM_length hm
      have hzl : zss.length = n := by
        have := congrArg List.length hxs
        simp at this
        omega
      rw [List.map_flatten]
      apply flat_of_pieces m
      · simp [hl, hzl]
      · intro j us hj
        rw [List.getElem?_map] at hj
        obtain ⟨zs, hz, rfl⟩ := Option.map_eq_some_iff.1 hj
        have hjn : j < n := by rw [← hzl]; exact (List.getElem?_eq_some_iff.1 hz).1
        obtain ⟨b, hb, hf⟩ := Lib.mapM_at hm j j (by simp [hjn])
        have hb1 : b.1 = Lib.tabData k zs := by
          have := congrArg (·[j]?) hxs
          simp [hb, hz] at this
          exact this
        have hf' : DataW.trod enc P w base sp held fuel e ((cs.drop (j * m)).take m) = some (Lib.tabData k zs, b.2) := by rw [hf, ← hb1]
        exact Lib.cells_of_tab he hi hci hce hf'
    · cases h

/-- From the row's condition: the table stands first on the list. -/
theorem nestIs_of_head {P : Program} {W : World} {name : String} {k : IntKind} {zss : List (List Int)} {rest : List (String × DataW Unit)} {g : Nat} {t e i : TypeId} {n m : Nat}
    (hg : P.globalNamed name = some g) (hty : (P.globals[g]?).map (·.type) = some t) (ht : P.underlying t = some (.array n e)) (he : P.underlying e = some (.array m i)) (hi : P.underlying i = some (.int k)) (hci : P.cellsOf i = 1) (hce : P.cellsOf e = m) (hct : P.cellsOf t = n * m)
    (h : laidMet P ((name, nestData k zss) :: rest) W) : Lib.TabIs P W name k zss.flatten := by
  obtain ⟨ps, ⟨g', t', cs, fuel, p, q, hg', ht', hvar, hd, _, _⟩, _⟩ := h
  obtain rfl := Option.some.inj (hg.symm.trans hg')
  obtain rfl := Option.some.inj (hty.symm.trans ht')
  unfold Lib.TabIs
  rw [hvar, ← cells_of_nest ht he hi hci hce hct hd]
end Go.Proofs.YtcgcnkddgihkpaaDoor
