/-
  DERIVED. GIVEN WITH THE SEED: THE CARDS: each row of YtdnelijkhinpcabDoorRows.lean that lists a variable, with what it lists TIED to the program's text (the seventh form; the later family's looks); each row that meets fmt, with fmt's text TOLD by the authors' own Lean function (tested against real Go, not proved from fmt's source: count such statements apart). THE CARD IS WHAT COUNTS. Prove the row's statement (the work); the ties are given (YtdnelijkhinpcabDoorTie.lean); close each card by the builder's one call (the guide's Derived/Test/ToyasCard.lean, 'card_holds'). Laid BY PROGRAM, IN A SANDBOX (cutbox-door.mjs). By AI agents, Wed Nov 11 2026. No macro, syntax, notation, axiom, sorry.
-/
import Derived.Test.YtdnelijkhinpcabDoorRows
import GoSem.ClaimSeven
namespace Go.Proofs.YtdnelijkhinpcabDoor
namespace Rows

/-- THE TIED CARD OF 'bindlelaw04.HeadPuts'. -/
def headPutsCard : Claim7 := { stood := { row := headPutsRow, standIns := [], harness := (true, "6a25ff657301a9f4b6a2eb2864969c3fa925f9e75c4b9e55b781fdb06b579e78"), looks := false }, kinds := [], alts := [], laidByText := true, laidKinds := [.data, .pinned], laidTests := true, laidLooks := .later }
def HeadPutsCardSaid : Prop := Claim7.holds Tryd.pinned (.plain (OpenSpec.ofChange headPutsSpec)) headPutsCard

/-- THE TIED CARD OF 'bindlelaw04.HeadSums'. -/
def headSumsCard : Claim7 := { stood := { row := headSumsRow, standIns := [], harness := (true, "6a25ff657301a9f4b6a2eb2864969c3fa925f9e75c4b9e55b781fdb06b579e78"), looks := false }, kinds := [], alts := [], laidByText := true, laidKinds := [.data, .pinned], laidTests := true, laidLooks := .later }
def HeadSumsCardSaid : Prop := Claim7.holds Tryd.pinned (.plain (OpenSpec.ofChange headSumsSpec)) headSumsCard

/-- THE TIED CARD OF 'bindlelaw04.HeadFree'. -/
def headFreeCard : Claim7 := { stood := { row := headFreeRow, standIns := [], harness := (true, "6a25ff657301a9f4b6a2eb2864969c3fa925f9e75c4b9e55b781fdb06b579e78"), looks := false }, kinds := [], alts := [], laidByText := true, laidKinds := [.data, .pinned], laidTests := true, laidLooks := .later }
def HeadFreeCardSaid : Prop := Claim7.holds Tryd.pinned (.plain (OpenSpec.ofChange headFreeSpec)) headFreeCard

/-- THE SECOND FORM's CARD OF 'bindlelaw04.HeadPuts'. -/
def headPutsUptoCard : Claim7 := { stood := { row := headPutsUptoRow, standIns := [], harness := (true, "6a25ff657301a9f4b6a2eb2864969c3fa925f9e75c4b9e55b781fdb06b579e78"), looks := false }, kinds := [], alts := [], laidByText := true, laidKinds := [.data, .pinned], laidTests := true, laidLooks := .later }
def HeadPutsUptoCardSaid : Prop := Claim7.holds Tryd.pinned (.plain (OpenSpec.upto headPutsSpec)) headPutsUptoCard

/-- THE SECOND FORM's CARD OF 'bindlelaw04.HeadSums'. -/
def headSumsUptoCard : Claim7 := { stood := { row := headSumsUptoRow, standIns := [], harness := (true, "6a25ff657301a9f4b6a2eb2864969c3fa925f9e75c4b9e55b781fdb06b579e78"), looks := false }, kinds := [], alts := [], laidByText := true, laidKinds := [.data, .pinned], laidTests := true, laidLooks := .later }
def HeadSumsUptoCardSaid : Prop := Claim7.holds Tryd.pinned (.plain (OpenSpec.upto headSumsSpec)) headSumsUptoCard

/-- THE SECOND FORM's CARD OF 'bindlelaw04.HeadFree'. -/
def headFreeUptoCard : Claim7 := { stood := { row := headFreeUptoRow, standIns := [], harness := (true, "6a25ff657301a9f4b6a2eb2864969c3fa925f9e75c4b9e55b781fdb06b579e78"), looks := false }, kinds := [], alts := [], laidByText := true, laidKinds := [.data, .pinned], laidTests := true, laidLooks := .later }
def HeadFreeUptoCardSaid : Prop := Claim7.holds Tryd.pinned (.plain (OpenSpec.upto headFreeSpec)) headFreeUptoCard
end Rows
end Go.Proofs.YtdnelijkhinpcabDoor
