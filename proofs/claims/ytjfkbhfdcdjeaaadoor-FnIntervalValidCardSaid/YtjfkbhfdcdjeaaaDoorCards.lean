/-
  DERIVED. GIVEN WITH THE SEED: THE CARDS: each row of YtjfkbhfdcdjeaaaDoorRows.lean that lists a variable, with what it lists TIED to the program's text (the seventh form; the later family's looks); each row that meets fmt, with fmt's text TOLD by the authors' own Lean function (tested against real Go, not proved from fmt's source: count such statements apart). THE CARD IS WHAT COUNTS. Prove the row's statement (the work); the ties are given (YtjfkbhfdcdjeaaaDoorTie.lean); close each card by the builder's one call (the guide's Derived/Test/ToyasCard.lean, 'card_holds'). Laid BY PROGRAM, IN A SANDBOX (cutbox-door.mjs). By AI agents, Wed Nov 11 2026. No macro, syntax, notation, axiom, sorry.
-/
import Derived.Test.YtjfkbhfdcdjeaaaDoorRows
import GoSem.ClaimSeven
namespace Go.Proofs.YtjfkbhfdcdjeaaaDoor
namespace Rows

/-- THE TIED CARD OF 'laws.FnExactIntervalValid'. -/
def fnExactIntervalValidCard : Claim7 := { stood := { row := fnExactIntervalValidRow, standIns := [], harness := (true, "78f1830a0321da66cc78a17d776cba3fc430ae4531d35b3998d0f73a6c0e4bae"), looks := false }, kinds := [], alts := [], laidByText := true, laidKinds := [.data], laidTests := true, laidLooks := .later }
def FnExactIntervalValidCardSaid : Prop := Claim7.holds Tryd.pinned (.plain (OpenSpec.ofChange fnExactIntervalValidSpec)) fnExactIntervalValidCard

/-- THE TIED CARD OF 'laws.FnExactIntervalOf'. -/
def fnExactIntervalOfCard : Claim7 := { stood := { row := fnExactIntervalOfRow, standIns := [], harness := (true, "78f1830a0321da66cc78a17d776cba3fc430ae4531d35b3998d0f73a6c0e4bae"), looks := false }, kinds := [], alts := [], laidByText := true, laidKinds := [.data], laidTests := true, laidLooks := .later }
def FnExactIntervalOfCardSaid : Prop := Claim7.holds Tryd.pinned (.plain (OpenSpec.ofChange fnExactIntervalOfSpec)) fnExactIntervalOfCard

/-- THE TIED CARD OF 'laws.FnExactAddInterval'. -/
def fnExactAddIntervalCard : Claim7 := { stood := { row := fnExactAddIntervalRow, standIns := [], harness := (true, "78f1830a0321da66cc78a17d776cba3fc430ae4531d35b3998d0f73a6c0e4bae"), looks := false }, kinds := [], alts := [], laidByText := true, laidKinds := [.data], laidTests := true, laidLooks := .later }
def FnExactAddIntervalCardSaid : Prop := Claim7.holds Tryd.pinned (.plain (OpenSpec.ofChange fnExactAddIntervalSpec)) fnExactAddIntervalCard

/-- THE TIED CARD OF 'laws.FnExactIntervalQuality'. -/
def fnExactIntervalQualityCard : Claim7 := { stood := { row := fnExactIntervalQualityRow, standIns := [], harness := (true, "78f1830a0321da66cc78a17d776cba3fc430ae4531d35b3998d0f73a6c0e4bae"), looks := false }, kinds := [], alts := [], laidByText := true, laidKinds := [.data], laidTests := true, laidLooks := .later }
def FnExactIntervalQualityCardSaid : Prop := Claim7.holds Tryd.pinned (.plain (OpenSpec.ofChange fnExactIntervalQualitySpec)) fnExactIntervalQualityCard

/-- THE TIED CARD OF 'laws.FnExactIntervalBack'. -/
def fnExactIntervalBackCard : Claim7 := { stood := { row := fnExactIntervalBackRow, standIns := [], harness := (true, "78f1830a0321da66cc78a17d776cba3fc430ae4531d35b3998d0f73a6c0e4bae"), looks := false }, kinds := [], alts := [], laidByText := true, laidKinds := [.data], laidTests := true, laidLooks := .later }
def FnExactIntervalBackCardSaid : Prop := Claim7.holds Tryd.pinned (.plain (OpenSpec.ofChange fnExactIntervalBackSpec)) fnExactIntervalBackCard

/-- THE TIED CARD OF 'laws.FnExactIntervalRest'. -/
def fnExactIntervalRestCard : Claim7 := { stood := { row := fnExactIntervalRestRow, standIns := [], harness := (true, "78f1830a0321da66cc78a17d776cba3fc430ae4531d35b3998d0f73a6c0e4bae"), looks := false }, kinds := [], alts := [], laidByText := true, laidKinds := [.data], laidTests := true, laidLooks := .later }
def FnExactIntervalRestCardSaid : Prop := Claim7.holds Tryd.pinned (.plain (OpenSpec.ofChange fnExactIntervalRestSpec)) fnExactIntervalRestCard

/-- THE TIED CARD OF 'laws.FnIntervalValid'. -/
def fnIntervalValidCard : Claim7 := { stood := { row := fnIntervalValidRow, standIns := [], harness := (true, "78f1830a0321da66cc78a17d776cba3fc430ae4531d35b3998d0f73a6c0e4bae"), looks := false }, kinds := [], alts := [], laidByText := true, laidKinds := [.data], laidTests := true, laidLooks := .later }
def FnIntervalValidCardSaid : Prop := Claim7.holds Tryd.pinned (.plain (OpenSpec.ofChange fnIntervalValidSpec)) fnIntervalValidCard

/-- THE TIED CARD OF 'laws.FnIntervalOf'. -/
def fnIntervalOfCard : Claim7 := { stood := { row := fnIntervalOfRow, standIns := [], harness := (true, "78f1830a0321da66cc78a17d776cba3fc430ae4531d35b3998d0f73a6c0e4bae"), looks := false }, kinds := [], alts := [], laidByText := true, laidKinds := [.data], laidTests := true, laidLooks := .later }
def FnIntervalOfCardSaid : Prop := Claim7.holds Tryd.pinned (.plain (OpenSpec.ofChange fnIntervalOfSpec)) fnIntervalOfCard

/-- THE TIED CARD OF 'laws.FnAddInterval'. -/
def fnAddIntervalCard : Claim7 := { stood := { row := fnAddIntervalRow, standIns := [], harness := (true, "78f1830a0321da66cc78a17d776cba3fc430ae4531d35b3998d0f73a6c0e4bae"), looks := false }, kinds := [], alts := [], laidByText := true, laidKinds := [.data], laidTests := true, laidLooks := .later }
def FnAddIntervalCardSaid : Prop := Claim7.holds Tryd.pinned (.plain (OpenSpec.ofChange fnAddIntervalSpec)) fnAddIntervalCard

/-- THE TIED CARD OF 'laws.FnIntervalQuality'. -/
def fnIntervalQualityCard : Claim7 := { stood := { row := fnIntervalQualityRow, standIns := [], harness := (true, "78f1830a0321da66cc78a17d776cba3fc430ae4531d35b3998d0f73a6c0e4bae"), looks := false }, kinds := [], alts := [], laidByText := true, laidKinds := [.data], laidTests := true, laidLooks := .later }
def FnIntervalQualityCardSaid : Prop := Claim7.holds Tryd.pinned (.plain (OpenSpec.ofChange fnIntervalQualitySpec)) fnIntervalQualityCard

/-- THE TIED CARD OF 'laws.FnIntervalBack'. -/
def fnIntervalBackCard : Claim7 := { stood := { row := fnIntervalBackRow, standIns := [], harness := (true, "78f1830a0321da66cc78a17d776cba3fc430ae4531d35b3998d0f73a6c0e4bae"), looks := false }, kinds := [], alts := [], laidByText := true, laidKinds := [.data], laidTests := true, laidLooks := .later }
def FnIntervalBackCardSaid : Prop := Claim7.holds Tryd.pinned (.plain (OpenSpec.ofChange fnIntervalBackSpec)) fnIntervalBackCard

/-- THE TIED CARD OF 'laws.FnIntervalRest'. -/
def fnIntervalRestCard : Claim7 := { stood := { row := fnIntervalRestRow, standIns := [], harness := (true, "78f1830a0321da66cc78a17d776cba3fc430ae4531d35b3998d0f73a6c0e4bae"), looks := false }, kinds := [], alts := [], laidByText := true, laidKinds := [.data], laidTests := true, laidLooks := .later }
def FnIntervalRestCardSaid : Prop := Claim7.holds Tryd.pinned (.plain (OpenSpec.ofChange fnIntervalRestSpec)) fnIntervalRestCard

/-- THE SECOND FORM's CARD OF 'laws.FnExactIntervalValid'. -/
def fnExactIntervalValidUptoCard : Claim7 := { stood := { row := fnExactIntervalValidUptoRow, standIns := [], harness := (true, "78f1830a0321da66cc78a17d776cba3fc430ae4531d35b3998d0f73a6c0e4bae"), looks := false }, kinds := [], alts := [], laidByText := true, laidKinds := [.data], laidTests := true, laidLooks := .later }
def FnExactIntervalValidUptoCardSaid : Prop := Claim7.holds Tryd.pinned (.plain (OpenSpec.upto fnExactIntervalValidSpec)) fnExactIntervalValidUptoCard

/-- THE SECOND FORM's CARD OF 'laws.FnExactIntervalOf'. -/
def fnExactIntervalOfUptoCard : Claim7 := { stood := { row := fnExactIntervalOfUptoRow, standIns := [], harness := (true, "78f1830a0321da66cc78a17d776cba3fc430ae4531d35b3998d0f73a6c0e4bae"), looks := false }, kinds := [], alts := [], laidByText := true, laidKinds := [.data], laidTests := true, laidLooks := .later }
def FnExactIntervalOfUptoCardSaid : Prop := Claim7.holds Tryd.pinned (.plain (OpenSpec.upto fnExactIntervalOfSpec)) fnExactIntervalOfUptoCard

/-- THE SECOND FORM's CARD OF 'laws.FnExactAddInterval'. -/
def fnExactAddIntervalUptoCard : Claim7 := { stood := { row := fnExactAddIntervalUptoRow, standIns := [], harness := (true, "78f1830a0321da66cc78a17d776cba3fc430ae4531d35b3998d0f73a6c0e4bae"), looks := false }, kinds := [], alts := [], laidByText := true, laidKinds := [.data], laidTests := true, laidLooks := .later }
def FnExactAddIntervalUptoCardSaid : Prop := Claim7.holds Tryd.pinned (.plain (OpenSpec.upto fnExactAddIntervalSpec)) fnExactAddIntervalUptoCard

/-- THE SECOND FORM's CARD OF 'laws.FnExactIntervalQuality'. -/
def fnExactIntervalQualityUptoCard : Claim7 := { stood := { row := fnExactIntervalQualityUptoRow, standIns := [], harness := (true, "78f1830a0321da66cc78a17d776cba3fc430ae4531d35b3998d0f73a6c0e4bae"), looks := false }, kinds := [], alts := [], laidByText := true, laidKinds := [.data], laidTests := true, laidLooks := .later }
def FnExactIntervalQualityUptoCardSaid : Prop := Claim7.holds Tryd.pinned (.plain (OpenSpec.upto fnExactIntervalQualitySpec)) fnExactIntervalQualityUptoCard

/-- THE SECOND FORM's CARD OF 'laws.FnExactIntervalBack'. -/
def fnExactIntervalBackUptoCard : Claim7 := { stood := { row := fnExactIntervalBackUptoRow, standIns := [], harness := (true, "78f1830a0321da66cc78a17d776cba3fc430ae4531d35b3998d0f73a6c0e4bae"), looks := false }, kinds := [], alts := [], laidByText := true, laidKinds := [.data], laidTests := true, laidLooks := .later }
def FnExactIntervalBackUptoCardSaid : Prop := Claim7.holds Tryd.pinned (.plain (OpenSpec.upto fnExactIntervalBackSpec)) fnExactIntervalBackUptoCard

/-- THE SECOND FORM's CARD OF 'laws.FnExactIntervalRest'. -/
def fnExactIntervalRestUptoCard : Claim7 := { stood := { row := fnExactIntervalRestUptoRow, standIns := [], harness := (true, "78f1830a0321da66cc78a17d776cba3fc430ae4531d35b3998d0f73a6c0e4bae"), looks := false }, kinds := [], alts := [], laidByText := true, laidKinds := [.data], laidTests := true, laidLooks := .later }
def FnExactIntervalRestUptoCardSaid : Prop := Claim7.holds Tryd.pinned (.plain (OpenSpec.upto fnExactIntervalRestSpec)) fnExactIntervalRestUptoCard

/-- THE SECOND FORM's CARD OF 'laws.FnIntervalValid'. -/
def fnIntervalValidUptoCard : Claim7 := { stood := { row := fnIntervalValidUptoRow, standIns := [], harness := (true, "78f1830a0321da66cc78a17d776cba3fc430ae4531d35b3998d0f73a6c0e4bae"), looks := false }, kinds := [], alts := [], laidByText := true, laidKinds := [.data], laidTests := true, laidLooks := .later }
def FnIntervalValidUptoCardSaid : Prop := Claim7.holds Tryd.pinned (.plain (OpenSpec.upto fnIntervalValidSpec)) fnIntervalValidUptoCard

/-- THE SECOND FORM's CARD OF 'laws.FnIntervalOf'. -/
def fnIntervalOfUptoCard : Claim7 := { stood := { row := fnIntervalOfUptoRow, standIns := [], harness := (true, "78f1830a0321da66cc78a17d776cba3fc430ae4531d35b3998d0f73a6c0e4bae"), looks := false }, kinds := [], alts := [], laidByText := true, laidKinds := [.data], laidTests := true, laidLooks := .later }
def FnIntervalOfUptoCardSaid : Prop := Claim7.holds Tryd.pinned (.plain (OpenSpec.upto fnIntervalOfSpec)) fnIntervalOfUptoCard

/-- THE SECOND FORM's CARD OF 'laws.FnAddInterval'. -/
def fnAddIntervalUptoCard : Claim7 := { stood := { row := fnAddIntervalUptoRow, standIns := [], harness := (true, "78f1830a0321da66cc78a17d776cba3fc430ae4531d35b3998d0f73a6c0e4bae"), looks := false }, kinds := [], alts := [], laidByText := true, laidKinds := [.data], laidTests := true, laidLooks := .later }
def FnAddIntervalUptoCardSaid : Prop := Claim7.holds Tryd.pinned (.plain (OpenSpec.upto fnAddIntervalSpec)) fnAddIntervalUptoCard

/-- THE SECOND FORM's CARD OF 'laws.FnIntervalQuality'. -/
def fnIntervalQualityUptoCard : Claim7 := { stood := { row := fnIntervalQualityUptoRow, standIns := [], harness := (true, "78f1830a0321da66cc78a17d776cba3fc430ae4531d35b3998d0f73a6c0e4bae"), looks := false }, kinds := [], alts := [], laidByText := true, laidKinds := [.data], laidTests := true, laidLooks := .later }
def FnIntervalQualityUptoCardSaid : Prop := Claim7.holds Tryd.pinned (.plain (OpenSpec.upto fnIntervalQualitySpec)) fnIntervalQualityUptoCard

/-- THE SECOND FORM's CARD OF 'laws.FnIntervalBack'. -/
def fnIntervalBackUptoCard : Claim7 := { stood := { row := fnIntervalBackUptoRow, standIns := [], harness := (true, "78f1830a0321da66cc78a17d776cba3fc430ae4531d35b3998d0f73a6c0e4bae"), looks := false }, kinds := [], alts := [], laidByText := true, laidKinds := [.data], laidTests := true, laidLooks := .later }
def FnIntervalBackUptoCardSaid : Prop := Claim7.holds Tryd.pinned (.plain (OpenSpec.upto fnIntervalBackSpec)) fnIntervalBackUptoCard

/-- THE SECOND FORM's CARD OF 'laws.FnIntervalRest'. -/
def fnIntervalRestUptoCard : Claim7 := { stood := { row := fnIntervalRestUptoRow, standIns := [], harness := (true, "78f1830a0321da66cc78a17d776cba3fc430ae4531d35b3998d0f73a6c0e4bae"), looks := false }, kinds := [], alts := [], laidByText := true, laidKinds := [.data], laidTests := true, laidLooks := .later }
def FnIntervalRestUptoCardSaid : Prop := Claim7.holds Tryd.pinned (.plain (OpenSpec.upto fnIntervalRestSpec)) fnIntervalRestUptoCard
end Rows
end Go.Proofs.YtjfkbhfdcdjeaaaDoor
