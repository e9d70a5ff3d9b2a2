/-
  DERIVED. GIVEN WITH THE SEED: THE CARDS: each row of YtindibabpfdljaaDoorRows.lean that lists a variable, with what it lists TIED to the program's text (the seventh form; the later family's looks); each row that meets fmt, with fmt's text TOLD by the authors' own Lean function (tested against real Go, not proved from fmt's source: count such statements apart). THE CARD IS WHAT COUNTS. Prove the row's statement (the work); the ties are given (YtindibabpfdljaaDoorTie.lean); close each card by the builder's one call (the guide's Derived/Test/ToyasCard.lean, 'card_holds'). Laid BY PROGRAM, IN A SANDBOX (cutbox-door.mjs). By AI agents, Wed Nov 11 2026. No macro, syntax, notation, axiom, sorry.
-/
import Derived.Test.YtindibabpfdljaaDoorRows
import GoSem.ClaimSeven
namespace Go.Proofs.YtindibabpfdljaaDoor
namespace Rows

/-- THE TIED CARD OF 'bindlelaw03.BlockReads'. -/
def blockReadsCard : Claim7 := { stood := { row := blockReadsRow, standIns := [], harness := (true, "85c08565f34c3b740609a21e76a2ab190e1314445cfc49fc497266a5e5bd2be3"), looks := false }, kinds := [], alts := [], laidByText := true, laidKinds := [.data, .pinned], laidTests := true, laidLooks := .later }
def BlockReadsCardSaid : Prop := Claim7.holds Tryd.pinned (.plain (OpenSpec.ofChange blockReadsSpec)) blockReadsCard

/-- THE TIED CARD OF 'bindlelaw03.BlockChunks'. -/
def blockChunksCard : Claim7 := { stood := { row := blockChunksRow, standIns := [], harness := (true, "85c08565f34c3b740609a21e76a2ab190e1314445cfc49fc497266a5e5bd2be3"), looks := false }, kinds := [], alts := [], laidByText := true, laidKinds := [.data, .pinned], laidTests := true, laidLooks := .later }
def BlockChunksCardSaid : Prop := Claim7.holds Tryd.pinned (.plain (OpenSpec.ofChange blockChunksSpec)) blockChunksCard

/-- THE TIED CARD OF 'bindlelaw03.BlockPuts'. -/
def blockPutsCard : Claim7 := { stood := { row := blockPutsRow, standIns := [], harness := (true, "85c08565f34c3b740609a21e76a2ab190e1314445cfc49fc497266a5e5bd2be3"), looks := false }, kinds := [], alts := [], laidByText := true, laidKinds := [.data, .pinned], laidTests := true, laidLooks := .later }
def BlockPutsCardSaid : Prop := Claim7.holds Tryd.pinned (.plain (OpenSpec.ofChange blockPutsSpec)) blockPutsCard

/-- THE TIED CARD OF 'bindlelaw03.BlockNone'. -/
def blockNoneCard : Claim7 := { stood := { row := blockNoneRow, standIns := [], harness := (true, "85c08565f34c3b740609a21e76a2ab190e1314445cfc49fc497266a5e5bd2be3"), looks := false }, kinds := [], alts := [], laidByText := true, laidKinds := [.data, .pinned], laidTests := true, laidLooks := .later }
def BlockNoneCardSaid : Prop := Claim7.holds Tryd.pinned (.plain (OpenSpec.ofChange blockNoneSpec)) blockNoneCard

/-- THE TIED CARD OF 'bindlelaw03.BlockAll'. -/
def blockAllCard : Claim7 := { stood := { row := blockAllRow, standIns := [], harness := (true, "85c08565f34c3b740609a21e76a2ab190e1314445cfc49fc497266a5e5bd2be3"), looks := false }, kinds := [], alts := [], laidByText := true, laidKinds := [.data, .pinned], laidTests := true, laidLooks := .later }
def BlockAllCardSaid : Prop := Claim7.holds Tryd.pinned (.plain (OpenSpec.ofChange blockAllSpec)) blockAllCard

/-- THE SECOND FORM's CARD OF 'bindlelaw03.BlockReads'. -/
def blockReadsUptoCard : Claim7 := { stood := { row := blockReadsUptoRow, standIns := [], harness := (true, "85c08565f34c3b740609a21e76a2ab190e1314445cfc49fc497266a5e5bd2be3"), looks := false }, kinds := [], alts := [], laidByText := true, laidKinds := [.data, .pinned], laidTests := true, laidLooks := .later }
def BlockReadsUptoCardSaid : Prop := Claim7.holds Tryd.pinned (.plain (OpenSpec.upto blockReadsSpec)) blockReadsUptoCard

/-- THE SECOND FORM's CARD OF 'bindlelaw03.BlockChunks'. -/
def blockChunksUptoCard : Claim7 := { stood := { row := blockChunksUptoRow, standIns := [], harness := (true, "85c08565f34c3b740609a21e76a2ab190e1314445cfc49fc497266a5e5bd2be3"), looks := false }, kinds := [], alts := [], laidByText := true, laidKinds := [.data, .pinned], laidTests := true, laidLooks := .later }
def BlockChunksUptoCardSaid : Prop := Claim7.holds Tryd.pinned (.plain (OpenSpec.upto blockChunksSpec)) blockChunksUptoCard

/-- THE SECOND FORM's CARD OF 'bindlelaw03.BlockPuts'. -/
def blockPutsUptoCard : Claim7 := { stood := { row := blockPutsUptoRow, standIns := [], harness := (true, "85c08565f34c3b740609a21e76a2ab190e1314445cfc49fc497266a5e5bd2be3"), looks := false }, kinds := [], alts := [], laidByText := true, laidKinds := [.data, .pinned], laidTests := true, laidLooks := .later }
def BlockPutsUptoCardSaid : Prop := Claim7.holds Tryd.pinned (.plain (OpenSpec.upto blockPutsSpec)) blockPutsUptoCard

/-- THE SECOND FORM's CARD OF 'bindlelaw03.BlockNone'. -/
def blockNoneUptoCard : Claim7 := { stood := { row := blockNoneUptoRow, standIns := [], harness := (true, "85c08565f34c3b740609a21e76a2ab190e1314445cfc49fc497266a5e5bd2be3"), looks := false }, kinds := [], alts := [], laidByText := true, laidKinds := [.data, .pinned], laidTests := true, laidLooks := .later }
def BlockNoneUptoCardSaid : Prop := Claim7.holds Tryd.pinned (.plain (OpenSpec.upto blockNoneSpec)) blockNoneUptoCard

/-- THE SECOND FORM's CARD OF 'bindlelaw03.BlockAll'. -/
def blockAllUptoCard : Claim7 := { stood := { row := blockAllUptoRow, standIns := [], harness := (true, "85c08565f34c3b740609a21e76a2ab190e1314445cfc49fc497266a5e5bd2be3"), looks := false }, kinds := [], alts := [], laidByText := true, laidKinds := [.data, .pinned], laidTests := true, laidLooks := .later }
def BlockAllUptoCardSaid : Prop := Claim7.holds Tryd.pinned (.plain (OpenSpec.upto blockAllSpec)) blockAllUptoCard
end Rows
end Go.Proofs.YtindibabpfdljaaDoor
