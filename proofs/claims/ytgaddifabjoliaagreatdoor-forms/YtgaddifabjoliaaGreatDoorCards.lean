/-
  DERIVED. GIVEN WITH THE SEED: THE CARDS: each row of YtgaddifabjoliaaGreatDoorRows.lean that lists a variable, with what it lists TIED to the program's text (the seventh form; the later family's looks); each row that meets fmt, with fmt's text TOLD by the authors' own Lean function (tested against real Go, not proved from fmt's source: count such statements apart). THE CARD IS WHAT COUNTS. Prove the row's statement (the work); the ties are given (YtgaddifabjoliaaGreatDoorTie.lean); close each card by the builder's one call (the guide's Derived/Test/ToyasCard.lean, 'card_holds'). Laid BY PROGRAM, IN A SANDBOX (cutbox-door.mjs). By AI agents, Wed Nov 11 2026. No macro, syntax, notation, axiom, sorry.
-/
import Derived.Test.YtgaddifabjoliaaGreatDoorRows
import GoSem.ClaimSeven
namespace Go.Proofs.YtgaddifabjoliaaGreatDoor
namespace Rows

/-- THE TIED CARD OF 'signetlaw.Forms'. -/
def formsCard : Claim7 := { stood := { row := formsRow, standIns := [], harness := (true, "39bf5debdfcfebe9bab1c121a5bf40adfca179740ef1600ec2bacf93613794f4"), looks := true }, kinds := [], alts := [], laidByText := true, laidKinds := [.data, .data, .data, .data, .sentinel, .sentinel, .pinned], laidTests := true, laidLooks := .later }
def FormsCardSaid : Prop := Claim7.holds Tryz.pinned (.plain (OpenSpec.ofChange formsSpec)) formsCard

/-- THE TIED CARD OF 'signetkeep.Plain'. -/
def plainCard : Claim7 := { stood := { row := plainRow, standIns := [], harness := (true, "39bf5debdfcfebe9bab1c121a5bf40adfca179740ef1600ec2bacf93613794f4"), looks := true }, kinds := [], alts := [], laidByText := true, laidKinds := [.data, .data, .data, .data, .sentinel, .sentinel, .pinned], laidTests := true, laidLooks := .later }
def PlainCardSaid : Prop := Claim7.holds Tryz.pinned (.plain (OpenSpec.ofChange plainSpec)) plainCard

/-- THE SECOND FORM's CARD OF 'signetlaw.Forms'. -/
def formsUptoCard : Claim7 := { stood := { row := formsUptoRow, standIns := [], harness := (true, "39bf5debdfcfebe9bab1c121a5bf40adfca179740ef1600ec2bacf93613794f4"), looks := true }, kinds := [], alts := [], laidByText := true, laidKinds := [.data, .data, .data, .data, .sentinel, .sentinel, .pinned], laidTests := true, laidLooks := .later }
def FormsUptoCardSaid : Prop := Claim7.holds Tryz.pinned (.plain (OpenSpec.upto formsSpec)) formsUptoCard

/-- THE SECOND FORM's CARD OF 'signetkeep.Plain'. -/
def plainUptoCard : Claim7 := { stood := { row := plainUptoRow, standIns := [], harness := (true, "39bf5debdfcfebe9bab1c121a5bf40adfca179740ef1600ec2bacf93613794f4"), looks := true }, kinds := [], alts := [], laidByText := true, laidKinds := [.data, .data, .data, .data, .sentinel, .sentinel, .pinned], laidTests := true, laidLooks := .later }
def PlainUptoCardSaid : Prop := Claim7.holds Tryz.pinned (.plain (OpenSpec.upto plainSpec)) plainUptoCard
end Rows
end Go.Proofs.YtgaddifabjoliaaGreatDoor
