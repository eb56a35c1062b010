/-
  DERIVED. GIVEN WITH THE SEED: THE CARDS: each row of YtcconhgbefhdeaaDoorRows.lean that lists a variable, with what it lists TIED to the program's text (the seventh form; the later family's looks); each row that meets fmt, with fmt's text TOLD by the authors' own Lean function (tested against real Go, not proved from fmt's source: count such statements apart). THE CARD IS WHAT COUNTS. Prove the row's statement (the work); the ties are given (YtcconhgbefhdeaaDoorTie.lean); close each card by the builder's one call (the guide's Derived/Test/ToyasCard.lean, 'card_holds'). Laid BY PROGRAM, IN A SANDBOX (cutbox-door.mjs). By AI agents, Wed Nov 11 2026. No macro, syntax, notation, axiom, sorry.
-/
import Derived.Test.YtcconhgbefhdeaaDoorRows
import GoSem.ClaimSeven
namespace Go.Proofs.YtcconhgbefhdeaaDoor
namespace Rows

/-- THE TIED CARD OF 'seamlaw.Scans'. -/
def scansCard : Claim7 := { stood := { row := scansRow, standIns := [], harness := (true, "12fe63188bce3f8900fd79792b4b15cf6ef801940a9dbe4263ba5acff2de8d5a"), looks := true }, kinds := [], alts := [], laidByText := true, laidKinds := [.handle], laidTests := true, laidLooks := .later }
def ScansCardSaid : Prop := Claim7.holds Tryd.pinned (.plain (OpenSpec.ofChange scansSpec)) scansCard

/-- THE TIED CARD OF 'seamkeep.Compared'. -/
def comparedCard : Claim7 := { stood := { row := comparedRow, standIns := [], harness := (true, "12fe63188bce3f8900fd79792b4b15cf6ef801940a9dbe4263ba5acff2de8d5a"), looks := true }, kinds := [], alts := [], laidByText := true, laidKinds := [.handle], laidTests := true, laidLooks := .later }
def ComparedCardSaid : Prop := Claim7.holds Tryd.pinned (.plain (OpenSpec.ofChange comparedSpec)) comparedCard

/-- THE TIED CARD OF 'seamlaw.Folds'. -/
def foldsCard : Claim7 := { stood := { row := foldsRow, standIns := [], harness := (true, "12fe63188bce3f8900fd79792b4b15cf6ef801940a9dbe4263ba5acff2de8d5a"), looks := true }, kinds := [], alts := [], laidByText := true, laidKinds := [.handle], laidTests := true, laidLooks := .later }
def FoldsCardSaid : Prop := Claim7.holds Tryd.pinned (.plain (OpenSpec.ofChange foldsSpec)) foldsCard

/-- THE TIED CARD OF 'seamkeep.Parted'. -/
def partedCard : Claim7 := { stood := { row := partedRow, standIns := [], harness := (true, "12fe63188bce3f8900fd79792b4b15cf6ef801940a9dbe4263ba5acff2de8d5a"), looks := true }, kinds := [], alts := [], laidByText := true, laidKinds := [.handle], laidTests := true, laidLooks := .later }
def PartedCardSaid : Prop := Claim7.holds Tryd.pinned (.plain (OpenSpec.ofChange partedSpec)) partedCard

/-- THE TIED CARD OF 'seamkeep.Folded'. -/
def foldedCard : Claim7 := { stood := { row := foldedRow, standIns := [], harness := (true, "12fe63188bce3f8900fd79792b4b15cf6ef801940a9dbe4263ba5acff2de8d5a"), looks := true }, kinds := [], alts := [], laidByText := true, laidKinds := [.handle], laidTests := true, laidLooks := .later }
def FoldedCardSaid : Prop := Claim7.holds Tryd.pinned (.plain (OpenSpec.ofChange foldedSpec)) foldedCard

/-- THE SECOND FORM's CARD OF 'seamlaw.Scans'. -/
def scansUptoCard : Claim7 := { stood := { row := scansUptoRow, standIns := [], harness := (true, "12fe63188bce3f8900fd79792b4b15cf6ef801940a9dbe4263ba5acff2de8d5a"), looks := true }, kinds := [], alts := [], laidByText := true, laidKinds := [.handle], laidTests := true, laidLooks := .later }
def ScansUptoCardSaid : Prop := Claim7.holds Tryd.pinned (.plain (OpenSpec.upto scansSpec)) scansUptoCard

/-- THE SECOND FORM's CARD OF 'seamkeep.Compared'. -/
def comparedUptoCard : Claim7 := { stood := { row := comparedUptoRow, standIns := [], harness := (true, "12fe63188bce3f8900fd79792b4b15cf6ef801940a9dbe4263ba5acff2de8d5a"), looks := true }, kinds := [], alts := [], laidByText := true, laidKinds := [.handle], laidTests := true, laidLooks := .later }
def ComparedUptoCardSaid : Prop := Claim7.holds Tryd.pinned (.plain (OpenSpec.upto comparedSpec)) comparedUptoCard

/-- THE SECOND FORM's CARD OF 'seamlaw.Folds'. -/
def foldsUptoCard : Claim7 := { stood := { row := foldsUptoRow, standIns := [], harness := (true, "12fe63188bce3f8900fd79792b4b15cf6ef801940a9dbe4263ba5acff2de8d5a"), looks := true }, kinds := [], alts := [], laidByText := true, laidKinds := [.handle], laidTests := true, laidLooks := .later }
def FoldsUptoCardSaid : Prop := Claim7.holds Tryd.pinned (.plain (OpenSpec.upto foldsSpec)) foldsUptoCard

/-- THE SECOND FORM's CARD OF 'seamkeep.Parted'. -/
def partedUptoCard : Claim7 := { stood := { row := partedUptoRow, standIns := [], harness := (true, "12fe63188bce3f8900fd79792b4b15cf6ef801940a9dbe4263ba5acff2de8d5a"), looks := true }, kinds := [], alts := [], laidByText := true, laidKinds := [.handle], laidTests := true, laidLooks := .later }
def PartedUptoCardSaid : Prop := Claim7.holds Tryd.pinned (.plain (OpenSpec.upto partedSpec)) partedUptoCard

/-- THE SECOND FORM's CARD OF 'seamkeep.Folded'. -/
def foldedUptoCard : Claim7 := { stood := { row := foldedUptoRow, standIns := [], harness := (true, "12fe63188bce3f8900fd79792b4b15cf6ef801940a9dbe4263ba5acff2de8d5a"), looks := true }, kinds := [], alts := [], laidByText := true, laidKinds := [.handle], laidTests := true, laidLooks := .later }
def FoldedUptoCardSaid : Prop := Claim7.holds Tryd.pinned (.plain (OpenSpec.upto foldedSpec)) foldedUptoCard
end Rows
end Go.Proofs.YtcconhgbefhdeaaDoor
