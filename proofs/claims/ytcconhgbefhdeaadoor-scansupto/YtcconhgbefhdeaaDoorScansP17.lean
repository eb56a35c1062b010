import Derived.Test.YtcconhgbefhdeaaDoorScansP16
import Derived.Test.YtcconhgbefhdeaaDoorRows
import Derived.Test.YtcconhgbefhdeaaDoorTie
import Derived.Test.YtcconhgbefhdeaaDoorCards
import Derived.LaidMore
import Derived.LaidHandle
import Derived.LaidLaws
import Derived.Stop.Joined
import Derived.SevenTiedAt
namespace Go.Proofs.YtcconhgbefhdeaaDoor
open Go.ChangeShapes Go.WideShapes Go.ChangeAt Go.RowKit Go.Joins

/-- The tied card. -/
theorem scans_card_holds : Rows.ScansUptoCardSaid :=
  Claim7.holds_tied_plain_at .later [] [.handle] true _ true
    scans_holds (fun _ h => by cases h) (by kernel_rfl) (fun _ h => by cases h) scansUpto_row_tie rfl ⟨rfl, rfl⟩ (by kernel_rfl) rfl
    (fun f fn hf hfn => by
      obtain rfl : f = 3 := Option.some.inj ((show Tryd.prog.funcNamed Rows.scansUptoRow.func = some 3 by kernel_rfl).symm.trans hf) |>.symm
      obtain rfl : fn = Tryd.f3 := (Option.some.inj (Tryd.func3.symm.trans hfn)).symm
      exact ⟨by kernel_rfl, fun j t ht => by
        rw [Tryd.params3] at ht
        have hm : t ∈ [22] := by simpa using Array.mem_of_getElem? ht
        have hall : ([22].all fun u => !Tryd.prog.wantsStandIn u) = true := by kernel_rfl
        exact (show Tryd.prog.wantsStandIn t = false by simpa using List.all_eq_true.1 hall t hm)⟩)
    (by kernel_rfl)

end Go.Proofs.YtcconhgbefhdeaaDoor
