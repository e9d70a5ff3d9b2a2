/-
  DERIVED. GIVEN WITH THE SEED: THE CARDS: each row of YtfhelebejclalaaDoorRows.lean that lists a variable, with what it lists TIED to the program's text (the seventh form; the later family's looks); each row that meets fmt, with fmt's text TOLD by the authors' own Lean function (tested against real Go, not proved from fmt's source: count such statements apart). THE CARD IS WHAT COUNTS. Prove the row's statement (the work); the ties are given (YtfhelebejclalaaDoorTie.lean); close each card by the builder's one call (the guide's Derived/Test/ToyasCard.lean, 'card_holds'). Laid BY PROGRAM, IN A SANDBOX (cutbox-door.mjs). By AI agents, Wed Nov 11 2026. No macro, syntax, notation, axiom, sorry.
-/
import Derived.Test.YtfhelebejclalaaDoorRows
import GoSem.ClaimSeven
namespace Go.Proofs.YtfhelebejclalaaDoor
namespace Rows

/-- THE TIED CARD OF 'bindlelaw11.LinksMembers'. -/
def linksMembersCard : Claim7 := { stood := { row := linksMembersRow, standIns := [], harness := (true, "b9990a78a90b7349ac2e1784e11a574afdf27c0845c22b1a40dffc213307a6ff"), looks := false }, kinds := [], alts := [], laidByText := true, laidKinds := [.data, .pinned], laidTests := true, laidLooks := .later }
def LinksMembersCardSaid : Prop := Claim7.holds Tryd.pinned (.plain (OpenSpec.ofChange linksMembersSpec)) linksMembersCard

/-- THE TIED CARD OF 'bindlelaw11.LinksBack'. -/
def linksBackCard : Claim7 := { stood := { row := linksBackRow, standIns := [], harness := (true, "b9990a78a90b7349ac2e1784e11a574afdf27c0845c22b1a40dffc213307a6ff"), looks := false }, kinds := [], alts := [], laidByText := true, laidKinds := [.data, .pinned], laidTests := true, laidLooks := .later }
def LinksBackCardSaid : Prop := Claim7.holds Tryd.pinned (.plain (OpenSpec.ofChange linksBackSpec)) linksBackCard

/-- THE TIED CARD OF 'bindlelaw11.LinksOrder'. -/
def linksOrderCard : Claim7 := { stood := { row := linksOrderRow, standIns := [], harness := (true, "b9990a78a90b7349ac2e1784e11a574afdf27c0845c22b1a40dffc213307a6ff"), looks := false }, kinds := [], alts := [], laidByText := true, laidKinds := [.data, .pinned], laidTests := true, laidLooks := .later }
def LinksOrderCardSaid : Prop := Claim7.holds Tryd.pinned (.plain (OpenSpec.ofChange linksOrderSpec)) linksOrderCard

/-- THE TIED CARD OF 'bindlelaw11.LinksSound'. -/
def linksSoundCard : Claim7 := { stood := { row := linksSoundRow, standIns := [], harness := (true, "b9990a78a90b7349ac2e1784e11a574afdf27c0845c22b1a40dffc213307a6ff"), looks := false }, kinds := [], alts := [], laidByText := true, laidKinds := [.data, .pinned], laidTests := true, laidLooks := .later }
def LinksSoundCardSaid : Prop := Claim7.holds Tryd.pinned (.plain (OpenSpec.ofChange linksSoundSpec)) linksSoundCard

/-- THE TIED CARD OF 'bindlelaw11.LinksClasses'. -/
def linksClassesCard : Claim7 := { stood := { row := linksClassesRow, standIns := [], harness := (true, "b9990a78a90b7349ac2e1784e11a574afdf27c0845c22b1a40dffc213307a6ff"), looks := false }, kinds := [], alts := [], laidByText := true, laidKinds := [.data, .pinned], laidTests := true, laidLooks := .later }
def LinksClassesCardSaid : Prop := Claim7.holds Tryd.pinned (.plain (OpenSpec.ofChange linksClassesSpec)) linksClassesCard

/-- THE TIED CARD OF 'bindlelaw11.LinksFirst'. -/
def linksFirstCard : Claim7 := { stood := { row := linksFirstRow, standIns := [], harness := (true, "b9990a78a90b7349ac2e1784e11a574afdf27c0845c22b1a40dffc213307a6ff"), looks := false }, kinds := [], alts := [], laidByText := true, laidKinds := [.data, .pinned], laidTests := true, laidLooks := .later }
def LinksFirstCardSaid : Prop := Claim7.holds Tryd.pinned (.plain (OpenSpec.ofChange linksFirstSpec)) linksFirstCard

/-- THE SECOND FORM's CARD OF 'bindlelaw11.LinksMembers'. -/
def linksMembersUptoCard : Claim7 := { stood := { row := linksMembersUptoRow, standIns := [], harness := (true, "b9990a78a90b7349ac2e1784e11a574afdf27c0845c22b1a40dffc213307a6ff"), looks := false }, kinds := [], alts := [], laidByText := true, laidKinds := [.data, .pinned], laidTests := true, laidLooks := .later }
def LinksMembersUptoCardSaid : Prop := Claim7.holds Tryd.pinned (.plain (OpenSpec.upto linksMembersSpec)) linksMembersUptoCard

/-- THE SECOND FORM's CARD OF 'bindlelaw11.LinksBack'. -/
def linksBackUptoCard : Claim7 := { stood := { row := linksBackUptoRow, standIns := [], harness := (true, "b9990a78a90b7349ac2e1784e11a574afdf27c0845c22b1a40dffc213307a6ff"), looks := false }, kinds := [], alts := [], laidByText := true, laidKinds := [.data, .pinned], laidTests := true, laidLooks := .later }
def LinksBackUptoCardSaid : Prop := Claim7.holds Tryd.pinned (.plain (OpenSpec.upto linksBackSpec)) linksBackUptoCard

/-- THE SECOND FORM's CARD OF 'bindlelaw11.LinksOrder'. -/
def linksOrderUptoCard : Claim7 := { stood := { row := linksOrderUptoRow, standIns := [], harness := (true, "b9990a78a90b7349ac2e1784e11a574afdf27c0845c22b1a40dffc213307a6ff"), looks := false }, kinds := [], alts := [], laidByText := true, laidKinds := [.data, .pinned], laidTests := true, laidLooks := .later }
def LinksOrderUptoCardSaid : Prop := Claim7.holds Tryd.pinned (.plain (OpenSpec.upto linksOrderSpec)) linksOrderUptoCard

/-- THE SECOND FORM's CARD OF 'bindlelaw11.LinksSound'. -/
def linksSoundUptoCard : Claim7 := { stood := { row := linksSoundUptoRow, standIns := [], harness := (true, "b9990a78a90b7349ac2e1784e11a574afdf27c0845c22b1a40dffc213307a6ff"), looks := false }, kinds := [], alts := [], laidByText := true, laidKinds := [.data, .pinned], laidTests := true, laidLooks := .later }
def LinksSoundUptoCardSaid : Prop := Claim7.holds Tryd.pinned (.plain (OpenSpec.upto linksSoundSpec)) linksSoundUptoCard

/-- THE SECOND FORM's CARD OF 'bindlelaw11.LinksClasses'. -/
def linksClassesUptoCard : Claim7 := { stood := { row := linksClassesUptoRow, standIns := [], harness := (true, "b9990a78a90b7349ac2e1784e11a574afdf27c0845c22b1a40dffc213307a6ff"), looks := false }, kinds := [], alts := [], laidByText := true, laidKinds := [.data, .pinned], laidTests := true, laidLooks := .later }
def LinksClassesUptoCardSaid : Prop := Claim7.holds Tryd.pinned (.plain (OpenSpec.upto linksClassesSpec)) linksClassesUptoCard

/-- THE SECOND FORM's CARD OF 'bindlelaw11.LinksFirst'. -/
def linksFirstUptoCard : Claim7 := { stood := { row := linksFirstUptoRow, standIns := [], harness := (true, "b9990a78a90b7349ac2e1784e11a574afdf27c0845c22b1a40dffc213307a6ff"), looks := false }, kinds := [], alts := [], laidByText := true, laidKinds := [.data, .pinned], laidTests := true, laidLooks := .later }
def LinksFirstUptoCardSaid : Prop := Claim7.holds Tryd.pinned (.plain (OpenSpec.upto linksFirstSpec)) linksFirstUptoCard
end Rows
end Go.Proofs.YtfhelebejclalaaDoor
