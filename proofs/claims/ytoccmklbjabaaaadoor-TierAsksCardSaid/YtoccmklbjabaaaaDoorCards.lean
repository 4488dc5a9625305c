/-
  DERIVED. GIVEN WITH THE SEED: THE CARDS: each row of YtoccmklbjabaaaaDoorRows.lean that lists a variable, with what it lists TIED to the program's text (the seventh form; the later family's looks); each row that meets fmt, with fmt's text TOLD by the authors' own Lean function (tested against real Go, not proved from fmt's source: count such statements apart). THE CARD IS WHAT COUNTS. Prove the row's statement (the work); the ties are given (YtoccmklbjabaaaaDoorTie.lean); close each card by the builder's one call (the guide's Derived/Test/ToyasCard.lean, 'card_holds'). Laid BY PROGRAM, IN A SANDBOX (cutbox-door.mjs). By AI agents, Wed Nov 11 2026. No macro, syntax, notation, axiom, sorry.
-/
import Derived.Test.YtoccmklbjabaaaaDoorRows
import GoSem.ClaimSeven
namespace Go.Proofs.YtoccmklbjabaaaaDoor
namespace Rows

/-- THE TIED CARD OF 'twinkeeplaw4.TierWrong'. -/
def tierWrongCard : Claim7 := { stood := { row := tierWrongRow, standIns := [], harness := (true, "287c15017fbabe72baa12f356a72312f440679d1c082dfe67445ff65bdec8399"), looks := false }, kinds := [], alts := [], laidByText := true, laidKinds := [.data], laidTests := true, laidLooks := .later }
def TierWrongCardSaid : Prop := Claim7.holds Tryd.pinned (.plain (OpenSpec.ofChange tierWrongSpec)) tierWrongCard

/-- THE TIED CARD OF 'twinkeeplaw4.TierAsks'. -/
def tierAsksCard : Claim7 := { stood := { row := tierAsksRow, standIns := [], harness := (true, "287c15017fbabe72baa12f356a72312f440679d1c082dfe67445ff65bdec8399"), looks := false }, kinds := [], alts := [], laidByText := true, laidKinds := [.data], laidTests := true, laidLooks := .later }
def TierAsksCardSaid : Prop := Claim7.holds Tryd.pinned (.plain (OpenSpec.ofChange tierAsksSpec)) tierAsksCard

/-- THE TIED CARD OF 'twinkeeplaw4.TierMakes'. -/
def tierMakesCard : Claim7 := { stood := { row := tierMakesRow, standIns := [], harness := (true, "287c15017fbabe72baa12f356a72312f440679d1c082dfe67445ff65bdec8399"), looks := false }, kinds := [], alts := [], laidByText := true, laidKinds := [.data], laidTests := true, laidLooks := .later }
def TierMakesCardSaid : Prop := Claim7.holds Tryd.pinned (.plain (OpenSpec.ofChange tierMakesSpec)) tierMakesCard

/-- THE TIED CARD OF 'twinkeeplaw4.TierSteps'. -/
def tierStepsCard : Claim7 := { stood := { row := tierStepsRow, standIns := [], harness := (true, "287c15017fbabe72baa12f356a72312f440679d1c082dfe67445ff65bdec8399"), looks := false }, kinds := [], alts := [], laidByText := true, laidKinds := [.data], laidTests := true, laidLooks := .later }
def TierStepsCardSaid : Prop := Claim7.holds Tryd.pinned (.plain (OpenSpec.ofChange tierStepsSpec)) tierStepsCard

/-- THE TIED CARD OF 'twinkeeplaw4.TierCounts'. -/
def tierCountsCard : Claim7 := { stood := { row := tierCountsRow, standIns := [], harness := (true, "287c15017fbabe72baa12f356a72312f440679d1c082dfe67445ff65bdec8399"), looks := false }, kinds := [], alts := [], laidByText := true, laidKinds := [.data], laidTests := true, laidLooks := .later }
def TierCountsCardSaid : Prop := Claim7.holds Tryd.pinned (.plain (OpenSpec.ofChange tierCountsSpec)) tierCountsCard

/-- THE TIED CARD OF 'twinkeeplaw4.TierFloors'. -/
def tierFloorsCard : Claim7 := { stood := { row := tierFloorsRow, standIns := [], harness := (true, "287c15017fbabe72baa12f356a72312f440679d1c082dfe67445ff65bdec8399"), looks := false }, kinds := [], alts := [], laidByText := true, laidKinds := [.data], laidTests := true, laidLooks := .later }
def TierFloorsCardSaid : Prop := Claim7.holds Tryd.pinned (.plain (OpenSpec.ofChange tierFloorsSpec)) tierFloorsCard

/-- THE SECOND FORM's CARD OF 'twinkeeplaw4.TierWrong'. -/
def tierWrongUptoCard : Claim7 := { stood := { row := tierWrongUptoRow, standIns := [], harness := (true, "287c15017fbabe72baa12f356a72312f440679d1c082dfe67445ff65bdec8399"), looks := false }, kinds := [], alts := [], laidByText := true, laidKinds := [.data], laidTests := true, laidLooks := .later }
def TierWrongUptoCardSaid : Prop := Claim7.holds Tryd.pinned (.plain (OpenSpec.upto tierWrongSpec)) tierWrongUptoCard

/-- THE SECOND FORM's CARD OF 'twinkeeplaw4.TierAsks'. -/
def tierAsksUptoCard : Claim7 := { stood := { row := tierAsksUptoRow, standIns := [], harness := (true, "287c15017fbabe72baa12f356a72312f440679d1c082dfe67445ff65bdec8399"), looks := false }, kinds := [], alts := [], laidByText := true, laidKinds := [.data], laidTests := true, laidLooks := .later }
def TierAsksUptoCardSaid : Prop := Claim7.holds Tryd.pinned (.plain (OpenSpec.upto tierAsksSpec)) tierAsksUptoCard

/-- THE SECOND FORM's CARD OF 'twinkeeplaw4.TierMakes'. -/
def tierMakesUptoCard : Claim7 := { stood := { row := tierMakesUptoRow, standIns := [], harness := (true, "287c15017fbabe72baa12f356a72312f440679d1c082dfe67445ff65bdec8399"), looks := false }, kinds := [], alts := [], laidByText := true, laidKinds := [.data], laidTests := true, laidLooks := .later }
def TierMakesUptoCardSaid : Prop := Claim7.holds Tryd.pinned (.plain (OpenSpec.upto tierMakesSpec)) tierMakesUptoCard

/-- THE SECOND FORM's CARD OF 'twinkeeplaw4.TierSteps'. -/
def tierStepsUptoCard : Claim7 := { stood := { row := tierStepsUptoRow, standIns := [], harness := (true, "287c15017fbabe72baa12f356a72312f440679d1c082dfe67445ff65bdec8399"), looks := false }, kinds := [], alts := [], laidByText := true, laidKinds := [.data], laidTests := true, laidLooks := .later }
def TierStepsUptoCardSaid : Prop := Claim7.holds Tryd.pinned (.plain (OpenSpec.upto tierStepsSpec)) tierStepsUptoCard

/-- THE SECOND FORM's CARD OF 'twinkeeplaw4.TierCounts'. -/
def tierCountsUptoCard : Claim7 := { stood := { row := tierCountsUptoRow, standIns := [], harness := (true, "287c15017fbabe72baa12f356a72312f440679d1c082dfe67445ff65bdec8399"), looks := false }, kinds := [], alts := [], laidByText := true, laidKinds := [.data], laidTests := true, laidLooks := .later }
def TierCountsUptoCardSaid : Prop := Claim7.holds Tryd.pinned (.plain (OpenSpec.upto tierCountsSpec)) tierCountsUptoCard

/-- THE SECOND FORM's CARD OF 'twinkeeplaw4.TierFloors'. -/
def tierFloorsUptoCard : Claim7 := { stood := { row := tierFloorsUptoRow, standIns := [], harness := (true, "287c15017fbabe72baa12f356a72312f440679d1c082dfe67445ff65bdec8399"), looks := false }, kinds := [], alts := [], laidByText := true, laidKinds := [.data], laidTests := true, laidLooks := .later }
def TierFloorsUptoCardSaid : Prop := Claim7.holds Tryd.pinned (.plain (OpenSpec.upto tierFloorsSpec)) tierFloorsUptoCard
end Rows
end Go.Proofs.YtoccmklbjabaaaaDoor
