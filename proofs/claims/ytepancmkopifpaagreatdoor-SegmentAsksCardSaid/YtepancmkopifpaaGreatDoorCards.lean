/-
  DERIVED. GIVEN WITH THE SEED: THE CARDS: each row of YtepancmkopifpaaGreatDoorRows.lean that lists a variable, with what it lists TIED to the program's text (the seventh form; the later family's looks); each row that meets fmt, with fmt's text TOLD by the authors' own Lean function (tested against real Go, not proved from fmt's source: count such statements apart). THE CARD IS WHAT COUNTS. Prove the row's statement (the work); the ties are given (YtepancmkopifpaaGreatDoorTie.lean); close each card by the builder's one call (the guide's Derived/Test/ToyasCard.lean, 'card_holds'). Laid BY PROGRAM, IN A SANDBOX (cutbox-door.mjs). By AI agents, Wed Nov 11 2026. No macro, syntax, notation, axiom, sorry.
-/
import Derived.Test.YtepancmkopifpaaGreatDoorRows
import GoSem.ClaimSeven
namespace Go.Proofs.YtepancmkopifpaaGreatDoor
namespace Rows

/-- THE TIED CARD OF 'twinkeeplaw8.SegmentAsks'. -/
def segmentAsksCard : Claim7 := { stood := { row := segmentAsksRow, standIns := [], harness := (true, "11f3643861d7aac6fc1340250827e5612048c2dcc58452d097e20cb8675629ae"), looks := false }, kinds := [], alts := [], laidByText := true, laidKinds := [.data, .data, .data, .data], laidTests := true, laidLooks := .later }
def SegmentAsksCardSaid : Prop := Claim7.holds Tryz.pinned (.plain (OpenSpec.ofChange segmentAsksSpec)) segmentAsksCard

/-- THE SECOND FORM's CARD OF 'twinkeeplaw8.SegmentAsks'. -/
def segmentAsksUptoCard : Claim7 := { stood := { row := segmentAsksUptoRow, standIns := [], harness := (true, "11f3643861d7aac6fc1340250827e5612048c2dcc58452d097e20cb8675629ae"), looks := false }, kinds := [], alts := [], laidByText := true, laidKinds := [.data, .data, .data, .data], laidTests := true, laidLooks := .later }
def SegmentAsksUptoCardSaid : Prop := Claim7.holds Tryz.pinned (.plain (OpenSpec.upto segmentAsksSpec)) segmentAsksUptoCard
end Rows
end Go.Proofs.YtepancmkopifpaaGreatDoor
