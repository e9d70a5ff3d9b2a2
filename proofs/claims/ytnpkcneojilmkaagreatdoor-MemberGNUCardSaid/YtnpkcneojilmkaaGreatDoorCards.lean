/-
  DERIVED. GIVEN WITH THE SEED: THE CARDS: each row of YtnpkcneojilmkaaGreatDoorRows.lean that lists a variable, with what it lists TIED to the program's text (the seventh form; the later family's looks); each row that meets fmt, with fmt's text TOLD by the authors' own Lean function (tested against real Go, not proved from fmt's source: count such statements apart). THE CARD IS WHAT COUNTS. Prove the row's statement (the work); the ties are given (YtnpkcneojilmkaaGreatDoorTie.lean); close each card by the builder's one call (the guide's Derived/Test/ToyasCard.lean, 'card_holds'). Laid BY PROGRAM, IN A SANDBOX (cutbox-door.mjs). By AI agents, Wed Nov 11 2026. No macro, syntax, notation, axiom, sorry.
-/
import Derived.Test.YtnpkcneojilmkaaGreatDoorRows
import GoSem.ClaimSeven
namespace Go.Proofs.YtnpkcneojilmkaaGreatDoor
namespace Rows

/-- THE TIED CARD OF 'bindlelaw08.MemberGNU'. -/
def memberGNUCard : Claim7 := { stood := { row := memberGNURow, standIns := [], harness := (true, "92e7f1de1f898909c6a592d5a5a4d788c79bca00e2cfee7f4f11942543e3d4fe"), looks := true }, kinds := [], alts := [], laidByText := true, laidKinds := [.data, .data, .data, .data, .sentinel, .sentinel, .pinned], laidTests := true, laidLooks := .later }
def MemberGNUCardSaid : Prop := Claim7.holds Tryz.pinned (.plain (OpenSpec.ofChange memberGNUSpec)) memberGNUCard

/-- THE TIED CARD OF 'bindlelaw09.WriteBack'. -/
def writeBackCard : Claim7 := { stood := { row := writeBackRow, standIns := [], harness := (true, "92e7f1de1f898909c6a592d5a5a4d788c79bca00e2cfee7f4f11942543e3d4fe"), looks := true }, kinds := [], alts := [], laidByText := true, laidKinds := [.data, .data, .data, .data, .sentinel, .sentinel, .pinned], laidTests := true, laidLooks := .later }
def WriteBackCardSaid : Prop := Claim7.holds Tryz.pinned (.plain (OpenSpec.ofChange writeBackSpec)) writeBackCard

/-- THE TIED CARD OF 'bindlelaw09.WriteRead'. -/
def writeReadCard : Claim7 := { stood := { row := writeReadRow, standIns := [], harness := (true, "92e7f1de1f898909c6a592d5a5a4d788c79bca00e2cfee7f4f11942543e3d4fe"), looks := true }, kinds := [], alts := [], laidByText := true, laidKinds := [.data, .data, .data, .data, .sentinel, .sentinel, .pinned], laidTests := true, laidLooks := .later }
def WriteReadCardSaid : Prop := Claim7.holds Tryz.pinned (.plain (OpenSpec.ofChange writeReadSpec)) writeReadCard

/-- THE TIED CARD OF 'bindlelaw09.WriteMany'. -/
def writeManyCard : Claim7 := { stood := { row := writeManyRow, standIns := [], harness := (true, "92e7f1de1f898909c6a592d5a5a4d788c79bca00e2cfee7f4f11942543e3d4fe"), looks := true }, kinds := [], alts := [], laidByText := true, laidKinds := [.data, .data, .data, .data, .sentinel, .sentinel, .pinned], laidTests := true, laidLooks := .later }
def WriteManyCardSaid : Prop := Claim7.holds Tryz.pinned (.plain (OpenSpec.ofChange writeManySpec)) writeManyCard

/-- THE SECOND FORM's CARD OF 'bindlelaw08.MemberGNU'. -/
def memberGNUUptoCard : Claim7 := { stood := { row := memberGNUUptoRow, standIns := [], harness := (true, "92e7f1de1f898909c6a592d5a5a4d788c79bca00e2cfee7f4f11942543e3d4fe"), looks := true }, kinds := [], alts := [], laidByText := true, laidKinds := [.data, .data, .data, .data, .sentinel, .sentinel, .pinned], laidTests := true, laidLooks := .later }
def MemberGNUUptoCardSaid : Prop := Claim7.holds Tryz.pinned (.plain (OpenSpec.upto memberGNUSpec)) memberGNUUptoCard

/-- THE SECOND FORM's CARD OF 'bindlelaw09.WriteBack'. -/
def writeBackUptoCard : Claim7 := { stood := { row := writeBackUptoRow, standIns := [], harness := (true, "92e7f1de1f898909c6a592d5a5a4d788c79bca00e2cfee7f4f11942543e3d4fe"), looks := true }, kinds := [], alts := [], laidByText := true, laidKinds := [.data, .data, .data, .data, .sentinel, .sentinel, .pinned], laidTests := true, laidLooks := .later }
def WriteBackUptoCardSaid : Prop := Claim7.holds Tryz.pinned (.plain (OpenSpec.upto writeBackSpec)) writeBackUptoCard

/-- THE SECOND FORM's CARD OF 'bindlelaw09.WriteRead'. -/
def writeReadUptoCard : Claim7 := { stood := { row := writeReadUptoRow, standIns := [], harness := (true, "92e7f1de1f898909c6a592d5a5a4d788c79bca00e2cfee7f4f11942543e3d4fe"), looks := true }, kinds := [], alts := [], laidByText := true, laidKinds := [.data, .data, .data, .data, .sentinel, .sentinel, .pinned], laidTests := true, laidLooks := .later }
def WriteReadUptoCardSaid : Prop := Claim7.holds Tryz.pinned (.plain (OpenSpec.upto writeReadSpec)) writeReadUptoCard

/-- THE SECOND FORM's CARD OF 'bindlelaw09.WriteMany'. -/
def writeManyUptoCard : Claim7 := { stood := { row := writeManyUptoRow, standIns := [], harness := (true, "92e7f1de1f898909c6a592d5a5a4d788c79bca00e2cfee7f4f11942543e3d4fe"), looks := true }, kinds := [], alts := [], laidByText := true, laidKinds := [.data, .data, .data, .data, .sentinel, .sentinel, .pinned], laidTests := true, laidLooks := .later }
def WriteManyUptoCardSaid : Prop := Claim7.holds Tryz.pinned (.plain (OpenSpec.upto writeManySpec)) writeManyUptoCard
end Rows
end Go.Proofs.YtnpkcneojilmkaaGreatDoor
