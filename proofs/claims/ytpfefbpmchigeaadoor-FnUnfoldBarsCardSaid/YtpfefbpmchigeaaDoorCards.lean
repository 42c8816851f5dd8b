/-
  DERIVED. GIVEN WITH THE SEED: THE CARDS: each row of YtpfefbpmchigeaaDoorRows.lean that lists a variable, with what it lists TIED to the program's text (the seventh form; the later family's looks); each row that meets fmt, with fmt's text TOLD by the authors' own Lean function (tested against real Go, not proved from fmt's source: count such statements apart). THE CARD IS WHAT COUNTS. Prove the row's statement (the work); the ties are given (YtpfefbpmchigeaaDoorTie.lean); close each card by the builder's one call (the guide's Derived/Test/ToyasCard.lean, 'card_holds'). Laid BY PROGRAM, IN A SANDBOX (cutbox-door.mjs). By AI agents, Wed Nov 11 2026. No macro, syntax, notation, axiom, sorry.
-/
import Derived.Test.YtpfefbpmchigeaaDoorRows
import GoSem.ClaimSeven
namespace Go.Proofs.YtpfefbpmchigeaaDoor
namespace Rows

/-- THE TIED CARD OF 'laws.FnSectionValid'. -/
def fnSectionValidCard : Claim7 := { stood := { row := fnSectionValidRow, standIns := [], harness := (true, "efec1af56f5c3d066c588b50e4236dcd1ef56accef85f8d5bd79cdfbe22221b2"), looks := false }, kinds := [], alts := [], laidByText := true, laidKinds := [.data], laidTests := true, laidLooks := .later }
def FnSectionValidCardSaid : Prop := Claim7.holds Tryd.pinned (.plain (OpenSpec.ofChange fnSectionValidSpec)) fnSectionValidCard

/-- THE TIED CARD OF 'laws.FnSectionsValid'. -/
def fnSectionsValidCard : Claim7 := { stood := { row := fnSectionsValidRow, standIns := [], harness := (true, "efec1af56f5c3d066c588b50e4236dcd1ef56accef85f8d5bd79cdfbe22221b2"), looks := false }, kinds := [], alts := [], laidByText := true, laidKinds := [.data], laidTests := true, laidLooks := .later }
def FnSectionsValidCardSaid : Prop := Claim7.holds Tryd.pinned (.plain (OpenSpec.ofChange fnSectionsValidSpec)) fnSectionsValidCard

/-- THE TIED CARD OF 'laws.FnWrittenBars'. -/
def fnWrittenBarsCard : Claim7 := { stood := { row := fnWrittenBarsRow, standIns := [], harness := (true, "efec1af56f5c3d066c588b50e4236dcd1ef56accef85f8d5bd79cdfbe22221b2"), looks := false }, kinds := [], alts := [], laidByText := true, laidKinds := [.data], laidTests := true, laidLooks := .later }
def FnWrittenBarsCardSaid : Prop := Claim7.holds Tryd.pinned (.plain (OpenSpec.ofChange fnWrittenBarsSpec)) fnWrittenBarsCard

/-- THE TIED CARD OF 'laws.FnPlayedOrder'. -/
def fnPlayedOrderCard : Claim7 := { stood := { row := fnPlayedOrderRow, standIns := [], harness := (true, "efec1af56f5c3d066c588b50e4236dcd1ef56accef85f8d5bd79cdfbe22221b2"), looks := false }, kinds := [], alts := [], laidByText := true, laidKinds := [.data], laidTests := true, laidLooks := .later }
def FnPlayedOrderCardSaid : Prop := Claim7.holds Tryd.pinned (.plain (OpenSpec.ofChange fnPlayedOrderSpec)) fnPlayedOrderCard

/-- THE TIED CARD OF 'laws.FnUnfoldBars'. -/
def fnUnfoldBarsCard : Claim7 := { stood := { row := fnUnfoldBarsRow, standIns := [], harness := (true, "efec1af56f5c3d066c588b50e4236dcd1ef56accef85f8d5bd79cdfbe22221b2"), looks := false }, kinds := [], alts := [], laidByText := true, laidKinds := [.data], laidTests := true, laidLooks := .later }
def FnUnfoldBarsCardSaid : Prop := Claim7.holds Tryd.pinned (.plain (OpenSpec.ofChange fnUnfoldBarsSpec)) fnUnfoldBarsCard

/-- THE TIED CARD OF 'laws.FnSectionsJoin'. -/
def fnSectionsJoinCard : Claim7 := { stood := { row := fnSectionsJoinRow, standIns := [], harness := (true, "efec1af56f5c3d066c588b50e4236dcd1ef56accef85f8d5bd79cdfbe22221b2"), looks := false }, kinds := [], alts := [], laidByText := true, laidKinds := [.data], laidTests := true, laidLooks := .later }
def FnSectionsJoinCardSaid : Prop := Claim7.holds Tryd.pinned (.plain (OpenSpec.ofChange fnSectionsJoinSpec)) fnSectionsJoinCard

/-- THE SECOND FORM's CARD OF 'laws.FnSectionValid'. -/
def fnSectionValidUptoCard : Claim7 := { stood := { row := fnSectionValidUptoRow, standIns := [], harness := (true, "efec1af56f5c3d066c588b50e4236dcd1ef56accef85f8d5bd79cdfbe22221b2"), looks := false }, kinds := [], alts := [], laidByText := true, laidKinds := [.data], laidTests := true, laidLooks := .later }
def FnSectionValidUptoCardSaid : Prop := Claim7.holds Tryd.pinned (.plain (OpenSpec.upto fnSectionValidSpec)) fnSectionValidUptoCard

/-- THE SECOND FORM's CARD OF 'laws.FnSectionsValid'. -/
def fnSectionsValidUptoCard : Claim7 := { stood := { row := fnSectionsValidUptoRow, standIns := [], harness := (true, "efec1af56f5c3d066c588b50e4236dcd1ef56accef85f8d5bd79cdfbe22221b2"), looks := false }, kinds := [], alts := [], laidByText := true, laidKinds := [.data], laidTests := true, laidLooks := .later }
def FnSectionsValidUptoCardSaid : Prop := Claim7.holds Tryd.pinned (.plain (OpenSpec.upto fnSectionsValidSpec)) fnSectionsValidUptoCard

/-- THE SECOND FORM's CARD OF 'laws.FnWrittenBars'. -/
def fnWrittenBarsUptoCard : Claim7 := { stood := { row := fnWrittenBarsUptoRow, standIns := [], harness := (true, "efec1af56f5c3d066c588b50e4236dcd1ef56accef85f8d5bd79cdfbe22221b2"), looks := false }, kinds := [], alts := [], laidByText := true, laidKinds := [.data], laidTests := true, laidLooks := .later }
def FnWrittenBarsUptoCardSaid : Prop := Claim7.holds Tryd.pinned (.plain (OpenSpec.upto fnWrittenBarsSpec)) fnWrittenBarsUptoCard

/-- THE SECOND FORM's CARD OF 'laws.FnPlayedOrder'. -/
def fnPlayedOrderUptoCard : Claim7 := { stood := { row := fnPlayedOrderUptoRow, standIns := [], harness := (true, "efec1af56f5c3d066c588b50e4236dcd1ef56accef85f8d5bd79cdfbe22221b2"), looks := false }, kinds := [], alts := [], laidByText := true, laidKinds := [.data], laidTests := true, laidLooks := .later }
def FnPlayedOrderUptoCardSaid : Prop := Claim7.holds Tryd.pinned (.plain (OpenSpec.upto fnPlayedOrderSpec)) fnPlayedOrderUptoCard

/-- THE SECOND FORM's CARD OF 'laws.FnUnfoldBars'. -/
def fnUnfoldBarsUptoCard : Claim7 := { stood := { row := fnUnfoldBarsUptoRow, standIns := [], harness := (true, "efec1af56f5c3d066c588b50e4236dcd1ef56accef85f8d5bd79cdfbe22221b2"), looks := false }, kinds := [], alts := [], laidByText := true, laidKinds := [.data], laidTests := true, laidLooks := .later }
def FnUnfoldBarsUptoCardSaid : Prop := Claim7.holds Tryd.pinned (.plain (OpenSpec.upto fnUnfoldBarsSpec)) fnUnfoldBarsUptoCard

/-- THE SECOND FORM's CARD OF 'laws.FnSectionsJoin'. -/
def fnSectionsJoinUptoCard : Claim7 := { stood := { row := fnSectionsJoinUptoRow, standIns := [], harness := (true, "efec1af56f5c3d066c588b50e4236dcd1ef56accef85f8d5bd79cdfbe22221b2"), looks := false }, kinds := [], alts := [], laidByText := true, laidKinds := [.data], laidTests := true, laidLooks := .later }
def FnSectionsJoinUptoCardSaid : Prop := Claim7.holds Tryd.pinned (.plain (OpenSpec.upto fnSectionsJoinSpec)) fnSectionsJoinUptoCard
end Rows
end Go.Proofs.YtpfefbpmchigeaaDoor
