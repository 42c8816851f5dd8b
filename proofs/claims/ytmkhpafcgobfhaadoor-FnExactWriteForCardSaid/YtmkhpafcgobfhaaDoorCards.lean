/-
  DERIVED. GIVEN WITH THE SEED: THE CARDS: each row of YtmkhpafcgobfhaaDoorRows.lean that lists a variable, with what it lists TIED to the program's text (the seventh form; the later family's looks); each row that meets fmt, with fmt's text TOLD by the authors' own Lean function (tested against real Go, not proved from fmt's source: count such statements apart). THE CARD IS WHAT COUNTS. Prove the row's statement (the work); the ties are given (YtmkhpafcgobfhaaDoorTie.lean); close each card by the builder's one call (the guide's Derived/Test/ToyasCard.lean, 'card_holds'). Laid BY PROGRAM, IN A SANDBOX (cutbox-door.mjs). By AI agents, Wed Nov 11 2026. No macro, syntax, notation, axiom, sorry.
-/
import Derived.Test.YtmkhpafcgobfhaaDoorRows
import GoSem.ClaimSeven
namespace Go.Proofs.YtmkhpafcgobfhaaDoor
namespace Rows

/-- THE TIED CARD OF 'laws.FnExactWriteFor'. -/
def fnExactWriteForCard : Claim7 := { stood := { row := fnExactWriteForRow, standIns := [], harness := (true, "076f1edf7b009da80e756206164aede2d3e4b1900396cbc0585c07814b3df1af"), looks := false }, kinds := [], alts := [], laidByText := true, laidKinds := [.data], laidTests := true, laidLooks := .later }
def FnExactWriteForCardSaid : Prop := Claim7.holds Tryd.pinned (.plain (OpenSpec.ofChange fnExactWriteForSpec)) fnExactWriteForCard

/-- THE TIED CARD OF 'laws.FnExactSoundOf'. -/
def fnExactSoundOfCard : Claim7 := { stood := { row := fnExactSoundOfRow, standIns := [], harness := (true, "076f1edf7b009da80e756206164aede2d3e4b1900396cbc0585c07814b3df1af"), looks := false }, kinds := [], alts := [], laidByText := true, laidKinds := [.data], laidTests := true, laidLooks := .later }
def FnExactSoundOfCardSaid : Prop := Claim7.holds Tryd.pinned (.plain (OpenSpec.ofChange fnExactSoundOfSpec)) fnExactSoundOfCard

/-- THE TIED CARD OF 'laws.FnMeetFault'. -/
def fnMeetFaultCard : Claim7 := { stood := { row := fnMeetFaultRow, standIns := [], harness := (true, "076f1edf7b009da80e756206164aede2d3e4b1900396cbc0585c07814b3df1af"), looks := false }, kinds := [], alts := [], laidByText := true, laidKinds := [.data], laidTests := true, laidLooks := .later }
def FnMeetFaultCardSaid : Prop := Claim7.holds Tryd.pinned (.plain (OpenSpec.ofChange fnMeetFaultSpec)) fnMeetFaultCard

/-- THE TIED CARD OF 'laws.FnCanonOf'. -/
def fnCanonOfCard : Claim7 := { stood := { row := fnCanonOfRow, standIns := [], harness := (true, "076f1edf7b009da80e756206164aede2d3e4b1900396cbc0585c07814b3df1af"), looks := false }, kinds := [], alts := [], laidByText := true, laidKinds := [.data], laidTests := true, laidLooks := .later }
def FnCanonOfCardSaid : Prop := Claim7.holds Tryd.pinned (.plain (OpenSpec.ofChange fnCanonOfSpec)) fnCanonOfCard

/-- THE TIED CARD OF 'laws.FnIsCanon'. -/
def fnIsCanonCard : Claim7 := { stood := { row := fnIsCanonRow, standIns := [], harness := (true, "076f1edf7b009da80e756206164aede2d3e4b1900396cbc0585c07814b3df1af"), looks := false }, kinds := [], alts := [], laidByText := true, laidKinds := [.data], laidTests := true, laidLooks := .later }
def FnIsCanonCardSaid : Prop := Claim7.holds Tryd.pinned (.plain (OpenSpec.ofChange fnIsCanonSpec)) fnIsCanonCard

/-- THE TIED CARD OF 'laws.FnCanonDelays'. -/
def fnCanonDelaysCard : Claim7 := { stood := { row := fnCanonDelaysRow, standIns := [], harness := (true, "076f1edf7b009da80e756206164aede2d3e4b1900396cbc0585c07814b3df1af"), looks := false }, kinds := [], alts := [], laidByText := true, laidKinds := [.data], laidTests := true, laidLooks := .later }
def FnCanonDelaysCardSaid : Prop := Claim7.holds Tryd.pinned (.plain (OpenSpec.ofChange fnCanonDelaysSpec)) fnCanonDelaysCard

/-- THE TIED CARD OF 'laws.FnCanonMeet'. -/
def fnCanonMeetCard : Claim7 := { stood := { row := fnCanonMeetRow, standIns := [], harness := (true, "076f1edf7b009da80e756206164aede2d3e4b1900396cbc0585c07814b3df1af"), looks := false }, kinds := [], alts := [], laidByText := true, laidKinds := [.data], laidTests := true, laidLooks := .later }
def FnCanonMeetCardSaid : Prop := Claim7.holds Tryd.pinned (.plain (OpenSpec.ofChange fnCanonMeetSpec)) fnCanonMeetCard

/-- THE TIED CARD OF 'laws.FnExactCanonOf'. -/
def fnExactCanonOfCard : Claim7 := { stood := { row := fnExactCanonOfRow, standIns := [], harness := (true, "076f1edf7b009da80e756206164aede2d3e4b1900396cbc0585c07814b3df1af"), looks := false }, kinds := [], alts := [], laidByText := true, laidKinds := [.data], laidTests := true, laidLooks := .later }
def FnExactCanonOfCardSaid : Prop := Claim7.holds Tryd.pinned (.plain (OpenSpec.ofChange fnExactCanonOfSpec)) fnExactCanonOfCard

/-- THE TIED CARD OF 'laws.FnExactIsCanon'. -/
def fnExactIsCanonCard : Claim7 := { stood := { row := fnExactIsCanonRow, standIns := [], harness := (true, "076f1edf7b009da80e756206164aede2d3e4b1900396cbc0585c07814b3df1af"), looks := false }, kinds := [], alts := [], laidByText := true, laidKinds := [.data], laidTests := true, laidLooks := .later }
def FnExactIsCanonCardSaid : Prop := Claim7.holds Tryd.pinned (.plain (OpenSpec.ofChange fnExactIsCanonSpec)) fnExactIsCanonCard

/-- THE TIED CARD OF 'laws.FnExactCanonDelays'. -/
def fnExactCanonDelaysCard : Claim7 := { stood := { row := fnExactCanonDelaysRow, standIns := [], harness := (true, "076f1edf7b009da80e756206164aede2d3e4b1900396cbc0585c07814b3df1af"), looks := false }, kinds := [], alts := [], laidByText := true, laidKinds := [.data], laidTests := true, laidLooks := .later }
def FnExactCanonDelaysCardSaid : Prop := Claim7.holds Tryd.pinned (.plain (OpenSpec.ofChange fnExactCanonDelaysSpec)) fnExactCanonDelaysCard

/-- THE SECOND FORM's CARD OF 'laws.FnExactWriteFor'. -/
def fnExactWriteForUptoCard : Claim7 := { stood := { row := fnExactWriteForUptoRow, standIns := [], harness := (true, "076f1edf7b009da80e756206164aede2d3e4b1900396cbc0585c07814b3df1af"), looks := false }, kinds := [], alts := [], laidByText := true, laidKinds := [.data], laidTests := true, laidLooks := .later }
def FnExactWriteForUptoCardSaid : Prop := Claim7.holds Tryd.pinned (.plain (OpenSpec.upto fnExactWriteForSpec)) fnExactWriteForUptoCard

/-- THE SECOND FORM's CARD OF 'laws.FnExactSoundOf'. -/
def fnExactSoundOfUptoCard : Claim7 := { stood := { row := fnExactSoundOfUptoRow, standIns := [], harness := (true, "076f1edf7b009da80e756206164aede2d3e4b1900396cbc0585c07814b3df1af"), looks := false }, kinds := [], alts := [], laidByText := true, laidKinds := [.data], laidTests := true, laidLooks := .later }
def FnExactSoundOfUptoCardSaid : Prop := Claim7.holds Tryd.pinned (.plain (OpenSpec.upto fnExactSoundOfSpec)) fnExactSoundOfUptoCard

/-- THE SECOND FORM's CARD OF 'laws.FnMeetFault'. -/
def fnMeetFaultUptoCard : Claim7 := { stood := { row := fnMeetFaultUptoRow, standIns := [], harness := (true, "076f1edf7b009da80e756206164aede2d3e4b1900396cbc0585c07814b3df1af"), looks := false }, kinds := [], alts := [], laidByText := true, laidKinds := [.data], laidTests := true, laidLooks := .later }
def FnMeetFaultUptoCardSaid : Prop := Claim7.holds Tryd.pinned (.plain (OpenSpec.upto fnMeetFaultSpec)) fnMeetFaultUptoCard

/-- THE SECOND FORM's CARD OF 'laws.FnCanonOf'. -/
def fnCanonOfUptoCard : Claim7 := { stood := { row := fnCanonOfUptoRow, standIns := [], harness := (true, "076f1edf7b009da80e756206164aede2d3e4b1900396cbc0585c07814b3df1af"), looks := false }, kinds := [], alts := [], laidByText := true, laidKinds := [.data], laidTests := true, laidLooks := .later }
def FnCanonOfUptoCardSaid : Prop := Claim7.holds Tryd.pinned (.plain (OpenSpec.upto fnCanonOfSpec)) fnCanonOfUptoCard

/-- THE SECOND FORM's CARD OF 'laws.FnIsCanon'. -/
def fnIsCanonUptoCard : Claim7 := { stood := { row := fnIsCanonUptoRow, standIns := [], harness := (true, "076f1edf7b009da80e756206164aede2d3e4b1900396cbc0585c07814b3df1af"), looks := false }, kinds := [], alts := [], laidByText := true, laidKinds := [.data], laidTests := true, laidLooks := .later }
def FnIsCanonUptoCardSaid : Prop := Claim7.holds Tryd.pinned (.plain (OpenSpec.upto fnIsCanonSpec)) fnIsCanonUptoCard

/-- THE SECOND FORM's CARD OF 'laws.FnCanonDelays'. -/
def fnCanonDelaysUptoCard : Claim7 := { stood := { row := fnCanonDelaysUptoRow, standIns := [], harness := (true, "076f1edf7b009da80e756206164aede2d3e4b1900396cbc0585c07814b3df1af"), looks := false }, kinds := [], alts := [], laidByText := true, laidKinds := [.data], laidTests := true, laidLooks := .later }
def FnCanonDelaysUptoCardSaid : Prop := Claim7.holds Tryd.pinned (.plain (OpenSpec.upto fnCanonDelaysSpec)) fnCanonDelaysUptoCard

/-- THE SECOND FORM's CARD OF 'laws.FnCanonMeet'. -/
def fnCanonMeetUptoCard : Claim7 := { stood := { row := fnCanonMeetUptoRow, standIns := [], harness := (true, "076f1edf7b009da80e756206164aede2d3e4b1900396cbc0585c07814b3df1af"), looks := false }, kinds := [], alts := [], laidByText := true, laidKinds := [.data], laidTests := true, laidLooks := .later }
def FnCanonMeetUptoCardSaid : Prop := Claim7.holds Tryd.pinned (.plain (OpenSpec.upto fnCanonMeetSpec)) fnCanonMeetUptoCard

/-- THE SECOND FORM's CARD OF 'laws.FnExactCanonOf'. -/
def fnExactCanonOfUptoCard : Claim7 := { stood := { row := fnExactCanonOfUptoRow, standIns := [], harness := (true, "076f1edf7b009da80e756206164aede2d3e4b1900396cbc0585c07814b3df1af"), looks := false }, kinds := [], alts := [], laidByText := true, laidKinds := [.data], laidTests := true, laidLooks := .later }
def FnExactCanonOfUptoCardSaid : Prop := Claim7.holds Tryd.pinned (.plain (OpenSpec.upto fnExactCanonOfSpec)) fnExactCanonOfUptoCard

/-- THE SECOND FORM's CARD OF 'laws.FnExactIsCanon'. -/
def fnExactIsCanonUptoCard : Claim7 := { stood := { row := fnExactIsCanonUptoRow, standIns := [], harness := (true, "076f1edf7b009da80e756206164aede2d3e4b1900396cbc0585c07814b3df1af"), looks := false }, kinds := [], alts := [], laidByText := true, laidKinds := [.data], laidTests := true, laidLooks := .later }
def FnExactIsCanonUptoCardSaid : Prop := Claim7.holds Tryd.pinned (.plain (OpenSpec.upto fnExactIsCanonSpec)) fnExactIsCanonUptoCard

/-- THE SECOND FORM's CARD OF 'laws.FnExactCanonDelays'. -/
def fnExactCanonDelaysUptoCard : Claim7 := { stood := { row := fnExactCanonDelaysUptoRow, standIns := [], harness := (true, "076f1edf7b009da80e756206164aede2d3e4b1900396cbc0585c07814b3df1af"), looks := false }, kinds := [], alts := [], laidByText := true, laidKinds := [.data], laidTests := true, laidLooks := .later }
def FnExactCanonDelaysUptoCardSaid : Prop := Claim7.holds Tryd.pinned (.plain (OpenSpec.upto fnExactCanonDelaysSpec)) fnExactCanonDelaysUptoCard
end Rows
end Go.Proofs.YtmkhpafcgobfhaaDoor
