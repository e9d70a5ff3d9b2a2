/-
  DERIVED. GIVEN WITH THE SEED: THE CARDS: each row of YtdjedimjhogdoaaGreatDoorRows.lean that lists a variable, with what it lists TIED to the program's text (the seventh form; the later family's looks); each row that meets fmt, with fmt's text TOLD by the authors' own Lean function (tested against real Go, not proved from fmt's source: count such statements apart). THE CARD IS WHAT COUNTS. Prove the row's statement (the work); the ties are given (YtdjedimjhogdoaaGreatDoorTie.lean); close each card by the builder's one call (the guide's Derived/Test/ToyasCard.lean, 'card_holds'). Laid BY PROGRAM, IN A SANDBOX (cutbox-door.mjs). By AI agents, Wed Nov 11 2026. No macro, syntax, notation, axiom, sorry.
-/
import Derived.Test.YtdjedimjhogdoaaGreatDoorRows
import GoSem.ClaimSeven
namespace Go.Proofs.YtdjedimjhogdoaaGreatDoor
namespace Rows

/-- THE TIED CARD OF 'bindlelaw08.MemberReads'. -/
def memberReadsCard : Claim7 := { stood := { row := memberReadsRow, standIns := [], harness := (true, "64d2575ae70bfabc3d560f9e3edb80dc483fbaacc0de2eebfa42baece69e9e27"), looks := true }, kinds := [], alts := [], laidByText := true, laidKinds := [.data, .data, .data, .data, .sentinel, .sentinel, .pinned], laidTests := true, laidLooks := .later }
def MemberReadsCardSaid : Prop := Claim7.holds Tryz.pinned (.plain (OpenSpec.ofChange memberReadsSpec)) memberReadsCard

/-- THE TIED CARD OF 'bindlelaw08.MemberChunks'. -/
def memberChunksCard : Claim7 := { stood := { row := memberChunksRow, standIns := [], harness := (true, "64d2575ae70bfabc3d560f9e3edb80dc483fbaacc0de2eebfa42baece69e9e27"), looks := true }, kinds := [], alts := [], laidByText := true, laidKinds := [.data, .data, .data, .data, .sentinel, .sentinel, .pinned], laidTests := true, laidLooks := .later }
def MemberChunksCardSaid : Prop := Claim7.holds Tryz.pinned (.plain (OpenSpec.ofChange memberChunksSpec)) memberChunksCard

/-- THE TIED CARD OF 'bindlelaw08.MemberGood'. -/
def memberGoodCard : Claim7 := { stood := { row := memberGoodRow, standIns := [], harness := (true, "64d2575ae70bfabc3d560f9e3edb80dc483fbaacc0de2eebfa42baece69e9e27"), looks := true }, kinds := [], alts := [], laidByText := true, laidKinds := [.data, .data, .data, .data, .sentinel, .sentinel, .pinned], laidTests := true, laidLooks := .later }
def MemberGoodCardSaid : Prop := Claim7.holds Tryz.pinned (.plain (OpenSpec.ofChange memberGoodSpec)) memberGoodCard

/-- THE TIED CARD OF 'bindlelaw08.MemberAll'. -/
def memberAllCard : Claim7 := { stood := { row := memberAllRow, standIns := [], harness := (true, "64d2575ae70bfabc3d560f9e3edb80dc483fbaacc0de2eebfa42baece69e9e27"), looks := true }, kinds := [], alts := [], laidByText := true, laidKinds := [.data, .data, .data, .data, .sentinel, .sentinel, .pinned], laidTests := true, laidLooks := .later }
def MemberAllCardSaid : Prop := Claim7.holds Tryz.pinned (.plain (OpenSpec.ofChange memberAllSpec)) memberAllCard

/-- THE TIED CARD OF 'bindlelaw08.MemberCut'. -/
def memberCutCard : Claim7 := { stood := { row := memberCutRow, standIns := [], harness := (true, "64d2575ae70bfabc3d560f9e3edb80dc483fbaacc0de2eebfa42baece69e9e27"), looks := true }, kinds := [], alts := [], laidByText := true, laidKinds := [.data, .data, .data, .data, .sentinel, .sentinel, .pinned], laidTests := true, laidLooks := .later }
def MemberCutCardSaid : Prop := Claim7.holds Tryz.pinned (.plain (OpenSpec.ofChange memberCutSpec)) memberCutCard

/-- THE TIED CARD OF 'bindlelaw08.MemberGNU'. -/
def memberGNUCard : Claim7 := { stood := { row := memberGNURow, standIns := [], harness := (true, "64d2575ae70bfabc3d560f9e3edb80dc483fbaacc0de2eebfa42baece69e9e27"), looks := true }, kinds := [], alts := [], laidByText := true, laidKinds := [.data, .data, .data, .data, .sentinel, .sentinel, .pinned], laidTests := true, laidLooks := .later }
def MemberGNUCardSaid : Prop := Claim7.holds Tryz.pinned (.plain (OpenSpec.ofChange memberGNUSpec)) memberGNUCard

/-- THE TIED CARD OF 'bindlelaw08.MemberKinds'. -/
def memberKindsCard : Claim7 := { stood := { row := memberKindsRow, standIns := [], harness := (true, "64d2575ae70bfabc3d560f9e3edb80dc483fbaacc0de2eebfa42baece69e9e27"), looks := true }, kinds := [], alts := [], laidByText := true, laidKinds := [.data, .data, .data, .data, .sentinel, .sentinel, .pinned], laidTests := true, laidLooks := .later }
def MemberKindsCardSaid : Prop := Claim7.holds Tryz.pinned (.plain (OpenSpec.ofChange memberKindsSpec)) memberKindsCard

/-- THE TIED CARD OF 'bindlelaw08.MemberGlobal'. -/
def memberGlobalCard : Claim7 := { stood := { row := memberGlobalRow, standIns := [], harness := (true, "64d2575ae70bfabc3d560f9e3edb80dc483fbaacc0de2eebfa42baece69e9e27"), looks := true }, kinds := [], alts := [], laidByText := true, laidKinds := [.data, .data, .data, .data, .sentinel, .sentinel, .pinned], laidTests := true, laidLooks := .later }
def MemberGlobalCardSaid : Prop := Claim7.holds Tryz.pinned (.plain (OpenSpec.ofChange memberGlobalSpec)) memberGlobalCard

/-- THE SECOND FORM's CARD OF 'bindlelaw08.MemberReads'. -/
def memberReadsUptoCard : Claim7 := { stood := { row := memberReadsUptoRow, standIns := [], harness := (true, "64d2575ae70bfabc3d560f9e3edb80dc483fbaacc0de2eebfa42baece69e9e27"), looks := true }, kinds := [], alts := [], laidByText := true, laidKinds := [.data, .data, .data, .data, .sentinel, .sentinel, .pinned], laidTests := true, laidLooks := .later }
def MemberReadsUptoCardSaid : Prop := Claim7.holds Tryz.pinned (.plain (OpenSpec.upto memberReadsSpec)) memberReadsUptoCard

/-- THE SECOND FORM's CARD OF 'bindlelaw08.MemberChunks'. -/
def memberChunksUptoCard : Claim7 := { stood := { row := memberChunksUptoRow, standIns := [], harness := (true, "64d2575ae70bfabc3d560f9e3edb80dc483fbaacc0de2eebfa42baece69e9e27"), looks := true }, kinds := [], alts := [], laidByText := true, laidKinds := [.data, .data, .data, .data, .sentinel, .sentinel, .pinned], laidTests := true, laidLooks := .later }
def MemberChunksUptoCardSaid : Prop := Claim7.holds Tryz.pinned (.plain (OpenSpec.upto memberChunksSpec)) memberChunksUptoCard

/-- THE SECOND FORM's CARD OF 'bindlelaw08.MemberGood'. -/
def memberGoodUptoCard : Claim7 := { stood := { row := memberGoodUptoRow, standIns := [], harness := (true, "64d2575ae70bfabc3d560f9e3edb80dc483fbaacc0de2eebfa42baece69e9e27"), looks := true }, kinds := [], alts := [], laidByText := true, laidKinds := [.data, .data, .data, .data, .sentinel, .sentinel, .pinned], laidTests := true, laidLooks := .later }
def MemberGoodUptoCardSaid : Prop := Claim7.holds Tryz.pinned (.plain (OpenSpec.upto memberGoodSpec)) memberGoodUptoCard

/-- THE SECOND FORM's CARD OF 'bindlelaw08.MemberAll'. -/
def memberAllUptoCard : Claim7 := { stood := { row := memberAllUptoRow, standIns := [], harness := (true, "64d2575ae70bfabc3d560f9e3edb80dc483fbaacc0de2eebfa42baece69e9e27"), looks := true }, kinds := [], alts := [], laidByText := true, laidKinds := [.data, .data, .data, .data, .sentinel, .sentinel, .pinned], laidTests := true, laidLooks := .later }
def MemberAllUptoCardSaid : Prop := Claim7.holds Tryz.pinned (.plain (OpenSpec.upto memberAllSpec)) memberAllUptoCard

/-- THE SECOND FORM's CARD OF 'bindlelaw08.MemberCut'. -/
def memberCutUptoCard : Claim7 := { stood := { row := memberCutUptoRow, standIns := [], harness := (true, "64d2575ae70bfabc3d560f9e3edb80dc483fbaacc0de2eebfa42baece69e9e27"), looks := true }, kinds := [], alts := [], laidByText := true, laidKinds := [.data, .data, .data, .data, .sentinel, .sentinel, .pinned], laidTests := true, laidLooks := .later }
def MemberCutUptoCardSaid : Prop := Claim7.holds Tryz.pinned (.plain (OpenSpec.upto memberCutSpec)) memberCutUptoCard

/-- THE SECOND FORM's CARD OF 'bindlelaw08.MemberGNU'. -/
def memberGNUUptoCard : Claim7 := { stood := { row := memberGNUUptoRow, standIns := [], harness := (true, "64d2575ae70bfabc3d560f9e3edb80dc483fbaacc0de2eebfa42baece69e9e27"), looks := true }, kinds := [], alts := [], laidByText := true, laidKinds := [.data, .data, .data, .data, .sentinel, .sentinel, .pinned], laidTests := true, laidLooks := .later }
def MemberGNUUptoCardSaid : Prop := Claim7.holds Tryz.pinned (.plain (OpenSpec.upto memberGNUSpec)) memberGNUUptoCard

/-- THE SECOND FORM's CARD OF 'bindlelaw08.MemberKinds'. -/
def memberKindsUptoCard : Claim7 := { stood := { row := memberKindsUptoRow, standIns := [], harness := (true, "64d2575ae70bfabc3d560f9e3edb80dc483fbaacc0de2eebfa42baece69e9e27"), looks := true }, kinds := [], alts := [], laidByText := true, laidKinds := [.data, .data, .data, .data, .sentinel, .sentinel, .pinned], laidTests := true, laidLooks := .later }
def MemberKindsUptoCardSaid : Prop := Claim7.holds Tryz.pinned (.plain (OpenSpec.upto memberKindsSpec)) memberKindsUptoCard

/-- THE SECOND FORM's CARD OF 'bindlelaw08.MemberGlobal'. -/
def memberGlobalUptoCard : Claim7 := { stood := { row := memberGlobalUptoRow, standIns := [], harness := (true, "64d2575ae70bfabc3d560f9e3edb80dc483fbaacc0de2eebfa42baece69e9e27"), looks := true }, kinds := [], alts := [], laidByText := true, laidKinds := [.data, .data, .data, .data, .sentinel, .sentinel, .pinned], laidTests := true, laidLooks := .later }
def MemberGlobalUptoCardSaid : Prop := Claim7.holds Tryz.pinned (.plain (OpenSpec.upto memberGlobalSpec)) memberGlobalUptoCard
end Rows
end Go.Proofs.YtdjedimjhogdoaaGreatDoor
