/-
  DERIVED. GIVEN WITH THE SEED: THE CARDS: each row of YtnhhaecbcfehcaaDoorRows.lean that lists a variable, with what it lists TIED to the program's text (the seventh form; the later family's looks); each row that meets fmt, with fmt's text TOLD by the authors' own Lean function (tested against real Go, not proved from fmt's source: count such statements apart). THE CARD IS WHAT COUNTS. Prove the row's statement (the work); the ties are given (YtnhhaecbcfehcaaDoorTie.lean); close each card by the builder's one call (the guide's Derived/Test/ToyasCard.lean, 'card_holds'). Laid BY PROGRAM, IN A SANDBOX (cutbox-door.mjs). By AI agents, Wed Nov 11 2026. No macro, syntax, notation, axiom, sorry.
-/
import Derived.Test.YtnhhaecbcfehcaaDoorRows
import GoSem.ClaimSeven
namespace Go.Proofs.YtnhhaecbcfehcaaDoor
namespace Rows

/-- THE TIED CARD OF 'seamlaw.Scans'. -/
def scansCard : Claim7 := { stood := { row := scansRow, standIns := [], harness := (true, "e8a514641c1e5bc12fe8bdd3e21f2ca049135284e9d762c7f8c5dcad8037b5b5"), looks := true }, kinds := [], alts := [], laidByText := true, laidKinds := [.handle], laidTests := true, laidLooks := .later }
def ScansCardSaid : Prop := Claim7.holds Tryd.pinned (.plain (OpenSpec.ofChange scansSpec)) scansCard

/-- THE TIED CARD OF 'seamkeep.Compared'. -/
def comparedCard : Claim7 := { stood := { row := comparedRow, standIns := [], harness := (true, "e8a514641c1e5bc12fe8bdd3e21f2ca049135284e9d762c7f8c5dcad8037b5b5"), looks := true }, kinds := [], alts := [], laidByText := true, laidKinds := [.handle], laidTests := true, laidLooks := .later }
def ComparedCardSaid : Prop := Claim7.holds Tryd.pinned (.plain (OpenSpec.ofChange comparedSpec)) comparedCard

/-- THE SECOND FORM's CARD OF 'seamlaw.Scans'. -/
def scansUptoCard : Claim7 := { stood := { row := scansUptoRow, standIns := [], harness := (true, "e8a514641c1e5bc12fe8bdd3e21f2ca049135284e9d762c7f8c5dcad8037b5b5"), looks := true }, kinds := [], alts := [], laidByText := true, laidKinds := [.handle], laidTests := true, laidLooks := .later }
def ScansUptoCardSaid : Prop := Claim7.holds Tryd.pinned (.plain (OpenSpec.upto scansSpec)) scansUptoCard

/-- THE SECOND FORM's CARD OF 'seamkeep.Compared'. -/
def comparedUptoCard : Claim7 := { stood := { row := comparedUptoRow, standIns := [], harness := (true, "e8a514641c1e5bc12fe8bdd3e21f2ca049135284e9d762c7f8c5dcad8037b5b5"), looks := true }, kinds := [], alts := [], laidByText := true, laidKinds := [.handle], laidTests := true, laidLooks := .later }
def ComparedUptoCardSaid : Prop := Claim7.holds Tryd.pinned (.plain (OpenSpec.upto comparedSpec)) comparedUptoCard
end Rows
end Go.Proofs.YtnhhaecbcfehcaaDoor
