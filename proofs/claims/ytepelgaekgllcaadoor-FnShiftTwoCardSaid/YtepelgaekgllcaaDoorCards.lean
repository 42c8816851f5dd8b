/-
  DERIVED. GIVEN WITH THE SEED: THE CARDS: each row of YtepelgaekgllcaaDoorRows.lean that lists a variable, with what it lists TIED to the program's text (the seventh form; the later family's looks); each row that meets fmt, with fmt's text TOLD by the authors' own Lean function (tested against real Go, not proved from fmt's source: count such statements apart). THE CARD IS WHAT COUNTS. Prove the row's statement (the work); the ties are given (YtepelgaekgllcaaDoorTie.lean); close each card by the builder's one call (the guide's Derived/Test/ToyasCard.lean, 'card_holds'). Laid BY PROGRAM, IN A SANDBOX (cutbox-door.mjs). By AI agents, Wed Nov 11 2026. No macro, syntax, notation, axiom, sorry.
-/
import Derived.Test.YtepelgaekgllcaaDoorRows
import GoSem.ClaimSeven
namespace Go.Proofs.YtepelgaekgllcaaDoor
namespace Rows

/-- THE TIED CARD OF 'laws.FnNoteValid'. -/
def fnNoteValidCard : Claim7 := { stood := { row := fnNoteValidRow, standIns := [], harness := (true, "d371d19a5f96e6ef80f5bfc8abe1e5f8bd4b77d34f7ac41bb20e0239d3803e78"), looks := false }, kinds := [], alts := [], laidByText := true, laidKinds := [.data], laidTests := true, laidLooks := .later }
def FnNoteValidCardSaid : Prop := Claim7.holds Tryd.pinned (.plain (OpenSpec.ofChange fnNoteValidSpec)) fnNoteValidCard

/-- THE TIED CARD OF 'laws.FnVoiceValid'. -/
def fnVoiceValidCard : Claim7 := { stood := { row := fnVoiceValidRow, standIns := [], harness := (true, "d371d19a5f96e6ef80f5bfc8abe1e5f8bd4b77d34f7ac41bb20e0239d3803e78"), looks := false }, kinds := [], alts := [], laidByText := true, laidKinds := [.data], laidTests := true, laidLooks := .later }
def FnVoiceValidCardSaid : Prop := Claim7.holds Tryd.pinned (.plain (OpenSpec.ofChange fnVoiceValidSpec)) fnVoiceValidCard

/-- THE TIED CARD OF 'laws.FnVoiceTicks'. -/
def fnVoiceTicksCard : Claim7 := { stood := { row := fnVoiceTicksRow, standIns := [], harness := (true, "d371d19a5f96e6ef80f5bfc8abe1e5f8bd4b77d34f7ac41bb20e0239d3803e78"), looks := false }, kinds := [], alts := [], laidByText := true, laidKinds := [.data], laidTests := true, laidLooks := .later }
def FnVoiceTicksCardSaid : Prop := Claim7.holds Tryd.pinned (.plain (OpenSpec.ofChange fnVoiceTicksSpec)) fnVoiceTicksCard

/-- THE TIED CARD OF 'laws.FnNoteAt'. -/
def fnNoteAtCard : Claim7 := { stood := { row := fnNoteAtRow, standIns := [], harness := (true, "d371d19a5f96e6ef80f5bfc8abe1e5f8bd4b77d34f7ac41bb20e0239d3803e78"), looks := false }, kinds := [], alts := [], laidByText := true, laidKinds := [.data], laidTests := true, laidLooks := .later }
def FnNoteAtCardSaid : Prop := Claim7.holds Tryd.pinned (.plain (OpenSpec.ofChange fnNoteAtSpec)) fnNoteAtCard

/-- THE TIED CARD OF 'laws.FnJoinTies'. -/
def fnJoinTiesCard : Claim7 := { stood := { row := fnJoinTiesRow, standIns := [], harness := (true, "d371d19a5f96e6ef80f5bfc8abe1e5f8bd4b77d34f7ac41bb20e0239d3803e78"), looks := false }, kinds := [], alts := [], laidByText := true, laidKinds := [.data], laidTests := true, laidLooks := .later }
def FnJoinTiesCardSaid : Prop := Claim7.holds Tryd.pinned (.plain (OpenSpec.ofChange fnJoinTiesSpec)) fnJoinTiesCard

/-- THE TIED CARD OF 'laws.FnShiftVoice'. -/
def fnShiftVoiceCard : Claim7 := { stood := { row := fnShiftVoiceRow, standIns := [], harness := (true, "d371d19a5f96e6ef80f5bfc8abe1e5f8bd4b77d34f7ac41bb20e0239d3803e78"), looks := false }, kinds := [], alts := [], laidByText := true, laidKinds := [.data], laidTests := true, laidLooks := .later }
def FnShiftVoiceCardSaid : Prop := Claim7.holds Tryd.pinned (.plain (OpenSpec.ofChange fnShiftVoiceSpec)) fnShiftVoiceCard

/-- THE TIED CARD OF 'laws.FnTurnVoice'. -/
def fnTurnVoiceCard : Claim7 := { stood := { row := fnTurnVoiceRow, standIns := [], harness := (true, "d371d19a5f96e6ef80f5bfc8abe1e5f8bd4b77d34f7ac41bb20e0239d3803e78"), looks := false }, kinds := [], alts := [], laidByText := true, laidKinds := [.data], laidTests := true, laidLooks := .later }
def FnTurnVoiceCardSaid : Prop := Claim7.holds Tryd.pinned (.plain (OpenSpec.ofChange fnTurnVoiceSpec)) fnTurnVoiceCard

/-- THE TIED CARD OF 'laws.FnTurnJoin'. -/
def fnTurnJoinCard : Claim7 := { stood := { row := fnTurnJoinRow, standIns := [], harness := (true, "d371d19a5f96e6ef80f5bfc8abe1e5f8bd4b77d34f7ac41bb20e0239d3803e78"), looks := false }, kinds := [], alts := [], laidByText := true, laidKinds := [.data], laidTests := true, laidLooks := .later }
def FnTurnJoinCardSaid : Prop := Claim7.holds Tryd.pinned (.plain (OpenSpec.ofChange fnTurnJoinSpec)) fnTurnJoinCard

/-- THE TIED CARD OF 'laws.FnShiftTwo'. -/
def fnShiftTwoCard : Claim7 := { stood := { row := fnShiftTwoRow, standIns := [], harness := (true, "d371d19a5f96e6ef80f5bfc8abe1e5f8bd4b77d34f7ac41bb20e0239d3803e78"), looks := false }, kinds := [], alts := [], laidByText := true, laidKinds := [.data], laidTests := true, laidLooks := .later }
def FnShiftTwoCardSaid : Prop := Claim7.holds Tryd.pinned (.plain (OpenSpec.ofChange fnShiftTwoSpec)) fnShiftTwoCard

/-- THE SECOND FORM's CARD OF 'laws.FnNoteValid'. -/
def fnNoteValidUptoCard : Claim7 := { stood := { row := fnNoteValidUptoRow, standIns := [], harness := (true, "d371d19a5f96e6ef80f5bfc8abe1e5f8bd4b77d34f7ac41bb20e0239d3803e78"), looks := false }, kinds := [], alts := [], laidByText := true, laidKinds := [.data], laidTests := true, laidLooks := .later }
def FnNoteValidUptoCardSaid : Prop := Claim7.holds Tryd.pinned (.plain (OpenSpec.upto fnNoteValidSpec)) fnNoteValidUptoCard

/-- THE SECOND FORM's CARD OF 'laws.FnVoiceValid'. -/
def fnVoiceValidUptoCard : Claim7 := { stood := { row := fnVoiceValidUptoRow, standIns := [], harness := (true, "d371d19a5f96e6ef80f5bfc8abe1e5f8bd4b77d34f7ac41bb20e0239d3803e78"), looks := false }, kinds := [], alts := [], laidByText := true, laidKinds := [.data], laidTests := true, laidLooks := .later }
def FnVoiceValidUptoCardSaid : Prop := Claim7.holds Tryd.pinned (.plain (OpenSpec.upto fnVoiceValidSpec)) fnVoiceValidUptoCard

/-- THE SECOND FORM's CARD OF 'laws.FnVoiceTicks'. -/
def fnVoiceTicksUptoCard : Claim7 := { stood := { row := fnVoiceTicksUptoRow, standIns := [], harness := (true, "d371d19a5f96e6ef80f5bfc8abe1e5f8bd4b77d34f7ac41bb20e0239d3803e78"), looks := false }, kinds := [], alts := [], laidByText := true, laidKinds := [.data], laidTests := true, laidLooks := .later }
def FnVoiceTicksUptoCardSaid : Prop := Claim7.holds Tryd.pinned (.plain (OpenSpec.upto fnVoiceTicksSpec)) fnVoiceTicksUptoCard

/-- THE SECOND FORM's CARD OF 'laws.FnNoteAt'. -/
def fnNoteAtUptoCard : Claim7 := { stood := { row := fnNoteAtUptoRow, standIns := [], harness := (true, "d371d19a5f96e6ef80f5bfc8abe1e5f8bd4b77d34f7ac41bb20e0239d3803e78"), looks := false }, kinds := [], alts := [], laidByText := true, laidKinds := [.data], laidTests := true, laidLooks := .later }
def FnNoteAtUptoCardSaid : Prop := Claim7.holds Tryd.pinned (.plain (OpenSpec.upto fnNoteAtSpec)) fnNoteAtUptoCard

/-- THE SECOND FORM's CARD OF 'laws.FnJoinTies'. -/
def fnJoinTiesUptoCard : Claim7 := { stood := { row := fnJoinTiesUptoRow, standIns := [], harness := (true, "d371d19a5f96e6ef80f5bfc8abe1e5f8bd4b77d34f7ac41bb20e0239d3803e78"), looks := false }, kinds := [], alts := [], laidByText := true, laidKinds := [.data], laidTests := true, laidLooks := .later }
def FnJoinTiesUptoCardSaid : Prop := Claim7.holds Tryd.pinned (.plain (OpenSpec.upto fnJoinTiesSpec)) fnJoinTiesUptoCard

/-- THE SECOND FORM's CARD OF 'laws.FnShiftVoice'. -/
def fnShiftVoiceUptoCard : Claim7 := { stood := { row := fnShiftVoiceUptoRow, standIns := [], harness := (true, "d371d19a5f96e6ef80f5bfc8abe1e5f8bd4b77d34f7ac41bb20e0239d3803e78"), looks := false }, kinds := [], alts := [], laidByText := true, laidKinds := [.data], laidTests := true, laidLooks := .later }
def FnShiftVoiceUptoCardSaid : Prop := Claim7.holds Tryd.pinned (.plain (OpenSpec.upto fnShiftVoiceSpec)) fnShiftVoiceUptoCard

/-- THE SECOND FORM's CARD OF 'laws.FnTurnVoice'. -/
def fnTurnVoiceUptoCard : Claim7 := { stood := { row := fnTurnVoiceUptoRow, standIns := [], harness := (true, "d371d19a5f96e6ef80f5bfc8abe1e5f8bd4b77d34f7ac41bb20e0239d3803e78"), looks := false }, kinds := [], alts := [], laidByText := true, laidKinds := [.data], laidTests := true, laidLooks := .later }
def FnTurnVoiceUptoCardSaid : Prop := Claim7.holds Tryd.pinned (.plain (OpenSpec.upto fnTurnVoiceSpec)) fnTurnVoiceUptoCard

/-- THE SECOND FORM's CARD OF 'laws.FnTurnJoin'. -/
def fnTurnJoinUptoCard : Claim7 := { stood := { row := fnTurnJoinUptoRow, standIns := [], harness := (true, "d371d19a5f96e6ef80f5bfc8abe1e5f8bd4b77d34f7ac41bb20e0239d3803e78"), looks := false }, kinds := [], alts := [], laidByText := true, laidKinds := [.data], laidTests := true, laidLooks := .later }
def FnTurnJoinUptoCardSaid : Prop := Claim7.holds Tryd.pinned (.plain (OpenSpec.upto fnTurnJoinSpec)) fnTurnJoinUptoCard

/-- THE SECOND FORM's CARD OF 'laws.FnShiftTwo'. -/
def fnShiftTwoUptoCard : Claim7 := { stood := { row := fnShiftTwoUptoRow, standIns := [], harness := (true, "d371d19a5f96e6ef80f5bfc8abe1e5f8bd4b77d34f7ac41bb20e0239d3803e78"), looks := false }, kinds := [], alts := [], laidByText := true, laidKinds := [.data], laidTests := true, laidLooks := .later }
def FnShiftTwoUptoCardSaid : Prop := Claim7.holds Tryd.pinned (.plain (OpenSpec.upto fnShiftTwoSpec)) fnShiftTwoUptoCard
end Rows
end Go.Proofs.YtepelgaekgllcaaDoor
