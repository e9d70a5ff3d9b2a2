/-
  DERIVED. GIVEN WITH THE SEED: THE CARDS: each row of YtnpkcneojilmkaaDoorRows.lean that lists a variable, with what it lists TIED to the program's text (the seventh form; the later family's looks); each row that meets fmt, with fmt's text TOLD by the authors' own Lean function (tested against real Go, not proved from fmt's source: count such statements apart). THE CARD IS WHAT COUNTS. Prove the row's statement (the work); the ties are given (YtnpkcneojilmkaaDoorTie.lean); close each card by the builder's one call (the guide's Derived/Test/ToyasCard.lean, 'card_holds'). Laid BY PROGRAM, IN A SANDBOX (cutbox-door.mjs). By AI agents, Wed Nov 11 2026. No macro, syntax, notation, axiom, sorry.
-/
import Derived.Test.YtnpkcneojilmkaaDoorRows
import GoSem.ClaimSeven
namespace Go.Proofs.YtnpkcneojilmkaaDoor
namespace Rows

/-- THE TIED CARD OF 'bindlelaw09.WritePuts'. -/
def writePutsCard : Claim7 := { stood := { row := writePutsRow, standIns := [], harness := (true, "93e58a5932633fd8f960145ff8d5f1cb382a9fcac8066d039c93d2e64e18d346"), looks := false }, kinds := [], alts := [], laidByText := true, laidKinds := [.data, .data, .data, .data, .pinned], laidTests := true, laidLooks := .later }
def WritePutsCardSaid : Prop := Claim7.holds Tryd.pinned (.plain (OpenSpec.ofChange writePutsSpec)) writePutsCard

/-- THE TIED CARD OF 'bindlelaw09.WriteJoins'. -/
def writeJoinsCard : Claim7 := { stood := { row := writeJoinsRow, standIns := [], harness := (true, "93e58a5932633fd8f960145ff8d5f1cb382a9fcac8066d039c93d2e64e18d346"), looks := false }, kinds := [], alts := [], laidByText := true, laidKinds := [.data, .data, .data, .data, .pinned], laidTests := true, laidLooks := .later }
def WriteJoinsCardSaid : Prop := Claim7.holds Tryd.pinned (.plain (OpenSpec.ofChange writeJoinsSpec)) writeJoinsCard

/-- THE TIED CARD OF 'bindlelaw09.WriteShort'. -/
def writeShortCard : Claim7 := { stood := { row := writeShortRow, standIns := [], harness := (true, "93e58a5932633fd8f960145ff8d5f1cb382a9fcac8066d039c93d2e64e18d346"), looks := false }, kinds := [], alts := [], laidByText := true, laidKinds := [.data, .data, .data, .data, .pinned], laidTests := true, laidLooks := .later }
def WriteShortCardSaid : Prop := Claim7.holds Tryd.pinned (.plain (OpenSpec.ofChange writeShortSpec)) writeShortCard

/-- THE SECOND FORM's CARD OF 'bindlelaw09.WritePuts'. -/
def writePutsUptoCard : Claim7 := { stood := { row := writePutsUptoRow, standIns := [], harness := (true, "93e58a5932633fd8f960145ff8d5f1cb382a9fcac8066d039c93d2e64e18d346"), looks := false }, kinds := [], alts := [], laidByText := true, laidKinds := [.data, .data, .data, .data, .pinned], laidTests := true, laidLooks := .later }
def WritePutsUptoCardSaid : Prop := Claim7.holds Tryd.pinned (.plain (OpenSpec.upto writePutsSpec)) writePutsUptoCard

/-- THE SECOND FORM's CARD OF 'bindlelaw09.WriteJoins'. -/
def writeJoinsUptoCard : Claim7 := { stood := { row := writeJoinsUptoRow, standIns := [], harness := (true, "93e58a5932633fd8f960145ff8d5f1cb382a9fcac8066d039c93d2e64e18d346"), looks := false }, kinds := [], alts := [], laidByText := true, laidKinds := [.data, .data, .data, .data, .pinned], laidTests := true, laidLooks := .later }
def WriteJoinsUptoCardSaid : Prop := Claim7.holds Tryd.pinned (.plain (OpenSpec.upto writeJoinsSpec)) writeJoinsUptoCard

/-- THE SECOND FORM's CARD OF 'bindlelaw09.WriteShort'. -/
def writeShortUptoCard : Claim7 := { stood := { row := writeShortUptoRow, standIns := [], harness := (true, "93e58a5932633fd8f960145ff8d5f1cb382a9fcac8066d039c93d2e64e18d346"), looks := false }, kinds := [], alts := [], laidByText := true, laidKinds := [.data, .data, .data, .data, .pinned], laidTests := true, laidLooks := .later }
def WriteShortUptoCardSaid : Prop := Claim7.holds Tryd.pinned (.plain (OpenSpec.upto writeShortSpec)) writeShortUptoCard
end Rows
end Go.Proofs.YtnpkcneojilmkaaDoor
