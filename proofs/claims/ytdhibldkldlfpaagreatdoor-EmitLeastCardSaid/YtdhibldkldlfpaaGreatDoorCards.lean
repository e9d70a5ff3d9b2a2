/-
  DERIVED. GIVEN WITH THE SEED: THE CARDS: each row of YtdhibldkldlfpaaGreatDoorRows.lean that lists a variable, with what it lists TIED to the program's text (the seventh form; the later family's looks); each row that meets fmt, with fmt's text TOLD by the authors' own Lean function (tested against real Go, not proved from fmt's source: count such statements apart). THE CARD IS WHAT COUNTS. Prove the row's statement (the work); the ties are given (YtdhibldkldlfpaaGreatDoorTie.lean); close each card by the builder's one call (the guide's Derived/Test/ToyasCard.lean, 'card_holds'). Laid BY PROGRAM, IN A SANDBOX (cutbox-door.mjs). By AI agents, Wed Nov 11 2026. No macro, syntax, notation, axiom, sorry.
-/
import Derived.Test.YtdhibldkldlfpaaGreatDoorRows
import GoSem.ClaimSeven
namespace Go.Proofs.YtdhibldkldlfpaaGreatDoor
namespace Rows

/-- THE TIED CARD OF 'bindlelaw12.EmitPacks'. -/
def emitPacksCard : Claim7 := { stood := { row := emitPacksRow, standIns := [], harness := (true, "35d428792e6577250ee2c7d036081654d408c0bf9b40dae5cbf4c11befcc787f"), looks := true }, kinds := [], alts := [], laidByText := true, laidKinds := [.data, .data, .data, .data, .sentinel, .sentinel, .pinned], laidTests := true, laidLooks := .later }
def EmitPacksCardSaid : Prop := Claim7.holds Tryz.pinned (.plain (OpenSpec.ofChange emitPacksSpec)) emitPacksCard

/-- THE TIED CARD OF 'bindlelaw12.EmitUnpacks'. -/
def emitUnpacksCard : Claim7 := { stood := { row := emitUnpacksRow, standIns := [], harness := (true, "35d428792e6577250ee2c7d036081654d408c0bf9b40dae5cbf4c11befcc787f"), looks := true }, kinds := [], alts := [], laidByText := true, laidKinds := [.data, .data, .data, .data, .sentinel, .sentinel, .pinned], laidTests := true, laidLooks := .later }
def EmitUnpacksCardSaid : Prop := Claim7.holds Tryz.pinned (.plain (OpenSpec.ofChange emitUnpacksSpec)) emitUnpacksCard

/-- THE TIED CARD OF 'bindlelaw12.EmitOnce'. -/
def emitOnceCard : Claim7 := { stood := { row := emitOnceRow, standIns := [], harness := (true, "35d428792e6577250ee2c7d036081654d408c0bf9b40dae5cbf4c11befcc787f"), looks := true }, kinds := [], alts := [], laidByText := true, laidKinds := [.data, .data, .data, .data, .sentinel, .sentinel, .pinned], laidTests := true, laidLooks := .later }
def EmitOnceCardSaid : Prop := Claim7.holds Tryz.pinned (.plain (OpenSpec.ofChange emitOnceSpec)) emitOnceCard

/-- THE TIED CARD OF 'bindlelaw12.EmitSorted'. -/
def emitSortedCard : Claim7 := { stood := { row := emitSortedRow, standIns := [], harness := (true, "35d428792e6577250ee2c7d036081654d408c0bf9b40dae5cbf4c11befcc787f"), looks := true }, kinds := [], alts := [], laidByText := true, laidKinds := [.data, .data, .data, .data, .sentinel, .sentinel, .pinned], laidTests := true, laidLooks := .later }
def EmitSortedCardSaid : Prop := Claim7.holds Tryz.pinned (.plain (OpenSpec.ofChange emitSortedSpec)) emitSortedCard

/-- THE TIED CARD OF 'bindlelaw12.EmitLeast'. -/
def emitLeastCard : Claim7 := { stood := { row := emitLeastRow, standIns := [], harness := (true, "35d428792e6577250ee2c7d036081654d408c0bf9b40dae5cbf4c11befcc787f"), looks := true }, kinds := [], alts := [], laidByText := true, laidKinds := [.data, .data, .data, .data, .sentinel, .sentinel, .pinned], laidTests := true, laidLooks := .later }
def EmitLeastCardSaid : Prop := Claim7.holds Tryz.pinned (.plain (OpenSpec.ofChange emitLeastSpec)) emitLeastCard

/-- THE SECOND FORM's CARD OF 'bindlelaw12.EmitPacks'. -/
def emitPacksUptoCard : Claim7 := { stood := { row := emitPacksUptoRow, standIns := [], harness := (true, "35d428792e6577250ee2c7d036081654d408c0bf9b40dae5cbf4c11befcc787f"), looks := true }, kinds := [], alts := [], laidByText := true, laidKinds := [.data, .data, .data, .data, .sentinel, .sentinel, .pinned], laidTests := true, laidLooks := .later }
def EmitPacksUptoCardSaid : Prop := Claim7.holds Tryz.pinned (.plain (OpenSpec.upto emitPacksSpec)) emitPacksUptoCard

/-- THE SECOND FORM's CARD OF 'bindlelaw12.EmitUnpacks'. -/
def emitUnpacksUptoCard : Claim7 := { stood := { row := emitUnpacksUptoRow, standIns := [], harness := (true, "35d428792e6577250ee2c7d036081654d408c0bf9b40dae5cbf4c11befcc787f"), looks := true }, kinds := [], alts := [], laidByText := true, laidKinds := [.data, .data, .data, .data, .sentinel, .sentinel, .pinned], laidTests := true, laidLooks := .later }
def EmitUnpacksUptoCardSaid : Prop := Claim7.holds Tryz.pinned (.plain (OpenSpec.upto emitUnpacksSpec)) emitUnpacksUptoCard

/-- THE SECOND FORM's CARD OF 'bindlelaw12.EmitOnce'. -/
def emitOnceUptoCard : Claim7 := { stood := { row := emitOnceUptoRow, standIns := [], harness := (true, "35d428792e6577250ee2c7d036081654d408c0bf9b40dae5cbf4c11befcc787f"), looks := true }, kinds := [], alts := [], laidByText := true, laidKinds := [.data, .data, .data, .data, .sentinel, .sentinel, .pinned], laidTests := true, laidLooks := .later }
def EmitOnceUptoCardSaid : Prop := Claim7.holds Tryz.pinned (.plain (OpenSpec.upto emitOnceSpec)) emitOnceUptoCard

/-- THE SECOND FORM's CARD OF 'bindlelaw12.EmitSorted'. -/
def emitSortedUptoCard : Claim7 := { stood := { row := emitSortedUptoRow, standIns := [], harness := (true, "35d428792e6577250ee2c7d036081654d408c0bf9b40dae5cbf4c11befcc787f"), looks := true }, kinds := [], alts := [], laidByText := true, laidKinds := [.data, .data, .data, .data, .sentinel, .sentinel, .pinned], laidTests := true, laidLooks := .later }
def EmitSortedUptoCardSaid : Prop := Claim7.holds Tryz.pinned (.plain (OpenSpec.upto emitSortedSpec)) emitSortedUptoCard

/-- THE SECOND FORM's CARD OF 'bindlelaw12.EmitLeast'. -/
def emitLeastUptoCard : Claim7 := { stood := { row := emitLeastUptoRow, standIns := [], harness := (true, "35d428792e6577250ee2c7d036081654d408c0bf9b40dae5cbf4c11befcc787f"), looks := true }, kinds := [], alts := [], laidByText := true, laidKinds := [.data, .data, .data, .data, .sentinel, .sentinel, .pinned], laidTests := true, laidLooks := .later }
def EmitLeastUptoCardSaid : Prop := Claim7.holds Tryz.pinned (.plain (OpenSpec.upto emitLeastSpec)) emitLeastUptoCard
end Rows
end Go.Proofs.YtdhibldkldlfpaaGreatDoor
