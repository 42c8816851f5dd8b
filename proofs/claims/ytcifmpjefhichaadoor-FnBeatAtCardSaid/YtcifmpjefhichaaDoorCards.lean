/-
  DERIVED. GIVEN WITH THE SEED: THE CARDS: each row of YtcifmpjefhichaaDoorRows.lean that lists a variable, with what it lists TIED to the program's text (the seventh form; the later family's looks); each row that meets fmt, with fmt's text TOLD by the authors' own Lean function (tested against real Go, not proved from fmt's source: count such statements apart). THE CARD IS WHAT COUNTS. Prove the row's statement (the work); the ties are given (YtcifmpjefhichaaDoorTie.lean); close each card by the builder's one call (the guide's Derived/Test/ToyasCard.lean, 'card_holds'). Laid BY PROGRAM, IN A SANDBOX (cutbox-door.mjs). By AI agents, Wed Nov 11 2026. No macro, syntax, notation, axiom, sorry.
-/
import Derived.Test.YtcifmpjefhichaaDoorRows
import GoSem.ClaimSeven
namespace Go.Proofs.YtcifmpjefhichaaDoor
namespace Rows

/-- THE TIED CARD OF 'laws.FnMeterValid'. -/
def fnMeterValidCard : Claim7 := { stood := { row := fnMeterValidRow, standIns := [], harness := (true, "3ccc16cdf66141e1e632c373654620853a6d688f34cb2f6d84268575b6a42ebf"), looks := false }, kinds := [], alts := [], laidByText := true, laidKinds := [.data, .data], laidTests := true, laidLooks := .later }
def FnMeterValidCardSaid : Prop := Claim7.holds Tryd.pinned (.plain (OpenSpec.ofChange fnMeterValidSpec)) fnMeterValidCard

/-- THE TIED CARD OF 'laws.FnBarTicks'. -/
def fnBarTicksCard : Claim7 := { stood := { row := fnBarTicksRow, standIns := [], harness := (true, "3ccc16cdf66141e1e632c373654620853a6d688f34cb2f6d84268575b6a42ebf"), looks := false }, kinds := [], alts := [], laidByText := true, laidKinds := [.data, .data, .data], laidTests := true, laidLooks := .later }
def FnBarTicksCardSaid : Prop := Claim7.holds Tryd.pinned (.plain (OpenSpec.ofChange fnBarTicksSpec)) fnBarTicksCard

/-- THE TIED CARD OF 'laws.FnBeatAt'. -/
def fnBeatAtCard : Claim7 := { stood := { row := fnBeatAtRow, standIns := [], harness := (true, "3ccc16cdf66141e1e632c373654620853a6d688f34cb2f6d84268575b6a42ebf"), looks := false }, kinds := [], alts := [], laidByText := true, laidKinds := [.data, .data], laidTests := true, laidLooks := .later }
def FnBeatAtCardSaid : Prop := Claim7.holds Tryd.pinned (.plain (OpenSpec.ofChange fnBeatAtSpec)) fnBeatAtCard

/-- THE TIED CARD OF 'laws.FnSplitBars'. -/
def fnSplitBarsCard : Claim7 := { stood := { row := fnSplitBarsRow, standIns := [], harness := (true, "3ccc16cdf66141e1e632c373654620853a6d688f34cb2f6d84268575b6a42ebf"), looks := false }, kinds := [], alts := [], laidByText := true, laidKinds := [.data, .data], laidTests := true, laidLooks := .later }
def FnSplitBarsCardSaid : Prop := Claim7.holds Tryd.pinned (.plain (OpenSpec.ofChange fnSplitBarsSpec)) fnSplitBarsCard

/-- THE TIED CARD OF 'laws.FnBarCount'. -/
def fnBarCountCard : Claim7 := { stood := { row := fnBarCountRow, standIns := [], harness := (true, "3ccc16cdf66141e1e632c373654620853a6d688f34cb2f6d84268575b6a42ebf"), looks := false }, kinds := [], alts := [], laidByText := true, laidKinds := [.data, .data], laidTests := true, laidLooks := .later }
def FnBarCountCardSaid : Prop := Claim7.holds Tryd.pinned (.plain (OpenSpec.ofChange fnBarCountSpec)) fnBarCountCard

/-- THE TIED CARD OF 'laws.FnFillBar'. -/
def fnFillBarCard : Claim7 := { stood := { row := fnFillBarRow, standIns := [], harness := (true, "3ccc16cdf66141e1e632c373654620853a6d688f34cb2f6d84268575b6a42ebf"), looks := false }, kinds := [], alts := [], laidByText := true, laidKinds := [.data, .data], laidTests := true, laidLooks := .later }
def FnFillBarCardSaid : Prop := Claim7.holds Tryd.pinned (.plain (OpenSpec.ofChange fnFillBarSpec)) fnFillBarCard

/-- THE TIED CARD OF 'laws.FnSplitBeats'. -/
def fnSplitBeatsCard : Claim7 := { stood := { row := fnSplitBeatsRow, standIns := [], harness := (true, "3ccc16cdf66141e1e632c373654620853a6d688f34cb2f6d84268575b6a42ebf"), looks := false }, kinds := [], alts := [], laidByText := true, laidKinds := [.data, .data], laidTests := true, laidLooks := .later }
def FnSplitBeatsCardSaid : Prop := Claim7.holds Tryd.pinned (.plain (OpenSpec.ofChange fnSplitBeatsSpec)) fnSplitBeatsCard

/-- THE TIED CARD OF 'laws.FnExactBarTicks'. -/
def fnExactBarTicksCard : Claim7 := { stood := { row := fnExactBarTicksRow, standIns := [], harness := (true, "3ccc16cdf66141e1e632c373654620853a6d688f34cb2f6d84268575b6a42ebf"), looks := false }, kinds := [], alts := [], laidByText := true, laidKinds := [.data], laidTests := true, laidLooks := .later }
def FnExactBarTicksCardSaid : Prop := Claim7.holds Tryd.pinned (.plain (OpenSpec.ofChange fnExactBarTicksSpec)) fnExactBarTicksCard

/-- THE TIED CARD OF 'laws.FnExactBeatAt'. -/
def fnExactBeatAtCard : Claim7 := { stood := { row := fnExactBeatAtRow, standIns := [], harness := (true, "3ccc16cdf66141e1e632c373654620853a6d688f34cb2f6d84268575b6a42ebf"), looks := false }, kinds := [], alts := [], laidByText := true, laidKinds := [.data], laidTests := true, laidLooks := .later }
def FnExactBeatAtCardSaid : Prop := Claim7.holds Tryd.pinned (.plain (OpenSpec.ofChange fnExactBeatAtSpec)) fnExactBeatAtCard

/-- THE TIED CARD OF 'laws.FnExactSplitBars'. -/
def fnExactSplitBarsCard : Claim7 := { stood := { row := fnExactSplitBarsRow, standIns := [], harness := (true, "3ccc16cdf66141e1e632c373654620853a6d688f34cb2f6d84268575b6a42ebf"), looks := false }, kinds := [], alts := [], laidByText := true, laidKinds := [.data], laidTests := true, laidLooks := .later }
def FnExactSplitBarsCardSaid : Prop := Claim7.holds Tryd.pinned (.plain (OpenSpec.ofChange fnExactSplitBarsSpec)) fnExactSplitBarsCard

/-- THE TIED CARD OF 'laws.FnExactBarCount'. -/
def fnExactBarCountCard : Claim7 := { stood := { row := fnExactBarCountRow, standIns := [], harness := (true, "3ccc16cdf66141e1e632c373654620853a6d688f34cb2f6d84268575b6a42ebf"), looks := false }, kinds := [], alts := [], laidByText := true, laidKinds := [.data], laidTests := true, laidLooks := .later }
def FnExactBarCountCardSaid : Prop := Claim7.holds Tryd.pinned (.plain (OpenSpec.ofChange fnExactBarCountSpec)) fnExactBarCountCard

/-- THE TIED CARD OF 'laws.FnExactFillBar'. -/
def fnExactFillBarCard : Claim7 := { stood := { row := fnExactFillBarRow, standIns := [], harness := (true, "3ccc16cdf66141e1e632c373654620853a6d688f34cb2f6d84268575b6a42ebf"), looks := false }, kinds := [], alts := [], laidByText := true, laidKinds := [.data], laidTests := true, laidLooks := .later }
def FnExactFillBarCardSaid : Prop := Claim7.holds Tryd.pinned (.plain (OpenSpec.ofChange fnExactFillBarSpec)) fnExactFillBarCard

/-- THE SECOND FORM's CARD OF 'laws.FnMeterValid'. -/
def fnMeterValidUptoCard : Claim7 := { stood := { row := fnMeterValidUptoRow, standIns := [], harness := (true, "3ccc16cdf66141e1e632c373654620853a6d688f34cb2f6d84268575b6a42ebf"), looks := false }, kinds := [], alts := [], laidByText := true, laidKinds := [.data, .data], laidTests := true, laidLooks := .later }
def FnMeterValidUptoCardSaid : Prop := Claim7.holds Tryd.pinned (.plain (OpenSpec.upto fnMeterValidSpec)) fnMeterValidUptoCard

/-- THE SECOND FORM's CARD OF 'laws.FnBarTicks'. -/
def fnBarTicksUptoCard : Claim7 := { stood := { row := fnBarTicksUptoRow, standIns := [], harness := (true, "3ccc16cdf66141e1e632c373654620853a6d688f34cb2f6d84268575b6a42ebf"), looks := false }, kinds := [], alts := [], laidByText := true, laidKinds := [.data, .data, .data], laidTests := true, laidLooks := .later }
def FnBarTicksUptoCardSaid : Prop := Claim7.holds Tryd.pinned (.plain (OpenSpec.upto fnBarTicksSpec)) fnBarTicksUptoCard

/-- THE SECOND FORM's CARD OF 'laws.FnBeatAt'. -/
def fnBeatAtUptoCard : Claim7 := { stood := { row := fnBeatAtUptoRow, standIns := [], harness := (true, "3ccc16cdf66141e1e632c373654620853a6d688f34cb2f6d84268575b6a42ebf"), looks := false }, kinds := [], alts := [], laidByText := true, laidKinds := [.data, .data], laidTests := true, laidLooks := .later }
def FnBeatAtUptoCardSaid : Prop := Claim7.holds Tryd.pinned (.plain (OpenSpec.upto fnBeatAtSpec)) fnBeatAtUptoCard

/-- THE SECOND FORM's CARD OF 'laws.FnSplitBars'. -/
def fnSplitBarsUptoCard : Claim7 := { stood := { row := fnSplitBarsUptoRow, standIns := [], harness := (true, "3ccc16cdf66141e1e632c373654620853a6d688f34cb2f6d84268575b6a42ebf"), looks := false }, kinds := [], alts := [], laidByText := true, laidKinds := [.data, .data], laidTests := true, laidLooks := .later }
def FnSplitBarsUptoCardSaid : Prop := Claim7.holds Tryd.pinned (.plain (OpenSpec.upto fnSplitBarsSpec)) fnSplitBarsUptoCard

/-- THE SECOND FORM's CARD OF 'laws.FnBarCount'. -/
def fnBarCountUptoCard : Claim7 := { stood := { row := fnBarCountUptoRow, standIns := [], harness := (true, "3ccc16cdf66141e1e632c373654620853a6d688f34cb2f6d84268575b6a42ebf"), looks := false }, kinds := [], alts := [], laidByText := true, laidKinds := [.data, .data], laidTests := true, laidLooks := .later }
def FnBarCountUptoCardSaid : Prop := Claim7.holds Tryd.pinned (.plain (OpenSpec.upto fnBarCountSpec)) fnBarCountUptoCard

/-- THE SECOND FORM's CARD OF 'laws.FnFillBar'. -/
def fnFillBarUptoCard : Claim7 := { stood := { row := fnFillBarUptoRow, standIns := [], harness := (true, "3ccc16cdf66141e1e632c373654620853a6d688f34cb2f6d84268575b6a42ebf"), looks := false }, kinds := [], alts := [], laidByText := true, laidKinds := [.data, .data], laidTests := true, laidLooks := .later }
def FnFillBarUptoCardSaid : Prop := Claim7.holds Tryd.pinned (.plain (OpenSpec.upto fnFillBarSpec)) fnFillBarUptoCard

/-- THE SECOND FORM's CARD OF 'laws.FnSplitBeats'. -/
def fnSplitBeatsUptoCard : Claim7 := { stood := { row := fnSplitBeatsUptoRow, standIns := [], harness := (true, "3ccc16cdf66141e1e632c373654620853a6d688f34cb2f6d84268575b6a42ebf"), looks := false }, kinds := [], alts := [], laidByText := true, laidKinds := [.data, .data], laidTests := true, laidLooks := .later }
def FnSplitBeatsUptoCardSaid : Prop := Claim7.holds Tryd.pinned (.plain (OpenSpec.upto fnSplitBeatsSpec)) fnSplitBeatsUptoCard

/-- THE SECOND FORM's CARD OF 'laws.FnExactBarTicks'. -/
def fnExactBarTicksUptoCard : Claim7 := { stood := { row := fnExactBarTicksUptoRow, standIns := [], harness := (true, "3ccc16cdf66141e1e632c373654620853a6d688f34cb2f6d84268575b6a42ebf"), looks := false }, kinds := [], alts := [], laidByText := true, laidKinds := [.data], laidTests := true, laidLooks := .later }
def FnExactBarTicksUptoCardSaid : Prop := Claim7.holds Tryd.pinned (.plain (OpenSpec.upto fnExactBarTicksSpec)) fnExactBarTicksUptoCard

/-- THE SECOND FORM's CARD OF 'laws.FnExactBeatAt'. -/
def fnExactBeatAtUptoCard : Claim7 := { stood := { row := fnExactBeatAtUptoRow, standIns := [], harness := (true, "3ccc16cdf66141e1e632c373654620853a6d688f34cb2f6d84268575b6a42ebf"), looks := false }, kinds := [], alts := [], laidByText := true, laidKinds := [.data], laidTests := true, laidLooks := .later }
def FnExactBeatAtUptoCardSaid : Prop := Claim7.holds Tryd.pinned (.plain (OpenSpec.upto fnExactBeatAtSpec)) fnExactBeatAtUptoCard

/-- THE SECOND FORM's CARD OF 'laws.FnExactSplitBars'. -/
def fnExactSplitBarsUptoCard : Claim7 := { stood := { row := fnExactSplitBarsUptoRow, standIns := [], harness := (true, "3ccc16cdf66141e1e632c373654620853a6d688f34cb2f6d84268575b6a42ebf"), looks := false }, kinds := [], alts := [], laidByText := true, laidKinds := [.data], laidTests := true, laidLooks := .later }
def FnExactSplitBarsUptoCardSaid : Prop := Claim7.holds Tryd.pinned (.plain (OpenSpec.upto fnExactSplitBarsSpec)) fnExactSplitBarsUptoCard

/-- THE SECOND FORM's CARD OF 'laws.FnExactBarCount'. -/
def fnExactBarCountUptoCard : Claim7 := { stood := { row := fnExactBarCountUptoRow, standIns := [], harness := (true, "3ccc16cdf66141e1e632c373654620853a6d688f34cb2f6d84268575b6a42ebf"), looks := false }, kinds := [], alts := [], laidByText := true, laidKinds := [.data], laidTests := true, laidLooks := .later }
def FnExactBarCountUptoCardSaid : Prop := Claim7.holds Tryd.pinned (.plain (OpenSpec.upto fnExactBarCountSpec)) fnExactBarCountUptoCard

/-- THE SECOND FORM's CARD OF 'laws.FnExactFillBar'. -/
def fnExactFillBarUptoCard : Claim7 := { stood := { row := fnExactFillBarUptoRow, standIns := [], harness := (true, "3ccc16cdf66141e1e632c373654620853a6d688f34cb2f6d84268575b6a42ebf"), looks := false }, kinds := [], alts := [], laidByText := true, laidKinds := [.data], laidTests := true, laidLooks := .later }
def FnExactFillBarUptoCardSaid : Prop := Claim7.holds Tryd.pinned (.plain (OpenSpec.upto fnExactFillBarSpec)) fnExactFillBarUptoCard
end Rows
end Go.Proofs.YtcifmpjefhichaaDoor
