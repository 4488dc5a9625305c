/-
  NARROWER THAN 'FOR EVERY INPUT', by the rows' own cells (each row's printed sentence says how): TierWrong: laid · TierAsks: laid · TierMakes: laid · TierSteps: laid · TierCounts: laid · TierFloors: laid.
  DERIVED. THE GIVEN ROWS OF THIS SEAT. 6 by the template 'for every input the law returns true; each argument reads behind the call as it read before'; 0 by the template 'total and deterministic' (their statements: YtoccmklbjabaaaaDoorTotals.lean).
  GIVEN WITH THE SEED: the statements are not yours to turn. If you find one false, say at which input.
  Laid BY PROGRAM, IN A SANDBOX (cutbox-rows.mjs): the forced cells as the released guide's own fill.sh prints them over the translation 13b08c024858de7b… (all of the seat's roots in one cut). By AI agents, Wed Nov 11 2026. No macro, syntax, notation, axiom, sorry.
-/
import Derived.Test.YtoccmklbjabaaaaDoorChecked
import GoSem.Claim
import GoSem.ClaimJoined
import GoSem.ClaimMapViews
import Derived.JoinedTies
import Derived.KernelRfl
namespace Go.Proofs.YtoccmklbjabaaaaDoor
/- THE CELL 'sum', in the pinned program and in every row, IS THE sha256 OF THE DUMP (.gsa) THAT YtoccmklbjabaaaaDoorProg.lean LOADS. Nothing in Lean hashes anything: it is a label: what it is worth is what the hold of that sum in a sandbox is worth. -/
noncomputable def Tryd.pinned : Pinned := { name := "ytoccmklbjabaaaadoor", sum := "13b08c024858de7b036fe6ddf57ae2bcdfd9208f976aef2ceca2b374c70880f5", checked := Tryd.checked }
namespace Rows
def none {H : Type} : Left H := { results := [], args := [] }

/- WHAT THE LISTED PACKAGE-LEVEL VARIABLES READ AS WHEN THE CALL BEGINS. Each datum BY PROGRAM (the guide's laid-datum.mjs) off the statement by which the dump's own 'gosem.cut.vars' lays the variable. In a bare row this is a premise. The card (YtoccmklbjabaaaaDoorCards.lean) ties it to the program's text. -/
def laid_twinkeep_tier_widths {H : Type} : DataW H := .agg [.lit (.int .i64 1), .lit (.int .i64 5), .lit (.int .i64 60), .lit (.int .i64 1440)]

/-- 'twinkeeplaw4.TierWrong': WHATEVER THE INPUT: true; the input reads as it did. -/
def tierWrongSpec : ChangeSpec := { name := "tierWrong", fn := fun _ => fun
  | [d1, d2, d3] => { results := [.lit (.bool true)], args := [d1, d2, d3] }
  | _ => none }
def tierWrongRow : OpenClaim := { program := "ytoccmklbjabaaaadoor", sum := "13b08c024858de7b036fe6ddf57ae2bcdfd9208f976aef2ceca2b374c70880f5", func := "twinkeep/twinkeeplaw4.TierWrong", spec := "tierWrong", named := ["twinkeep/tier.widths"], apart := false, laid := [("twinkeep/tier.widths", laid_twinkeep_tier_widths)] }
def TierWrongSaid : Prop := tierWrongRow.holds Tryd.pinned (OpenSpec.ofChange tierWrongSpec)

/-- ITS FALSE NEIGHBOUR: 'it returns false'. Refute it at one input. -/
def tierWrongWrong : ChangeSpec := { name := "tierWrong", fn := fun _ => fun
  | [d1, d2, d3] => { results := [.lit (.bool false)], args := [d1, d2, d3] }
  | _ => none }
def TierWrongWrongFalsely : Prop := tierWrongRow.holds Tryd.pinned (OpenSpec.ofChange tierWrongWrong)

/-- 'twinkeeplaw4.TierAsks': WHATEVER THE INPUT: true; the input reads as it did. -/
def tierAsksSpec : ChangeSpec := { name := "tierAsks", fn := fun _ => fun
  | [d1, d2, d3, d4] => { results := [.lit (.bool true)], args := [d1, d2, d3, d4] }
  | _ => none }
def tierAsksRow : OpenClaim := { program := "ytoccmklbjabaaaadoor", sum := "13b08c024858de7b036fe6ddf57ae2bcdfd9208f976aef2ceca2b374c70880f5", func := "twinkeep/twinkeeplaw4.TierAsks", spec := "tierAsks", named := ["twinkeep/tier.widths"], apart := false, laid := [("twinkeep/tier.widths", laid_twinkeep_tier_widths)] }
def TierAsksSaid : Prop := tierAsksRow.holds Tryd.pinned (OpenSpec.ofChange tierAsksSpec)

/-- ITS FALSE NEIGHBOUR: 'it returns false'. Refute it at one input. -/
def tierAsksWrong : ChangeSpec := { name := "tierAsks", fn := fun _ => fun
  | [d1, d2, d3, d4] => { results := [.lit (.bool false)], args := [d1, d2, d3, d4] }
  | _ => none }
def TierAsksWrongFalsely : Prop := tierAsksRow.holds Tryd.pinned (OpenSpec.ofChange tierAsksWrong)

/-- 'twinkeeplaw4.TierMakes': WHATEVER THE INPUT: true; the input reads as it did. -/
def tierMakesSpec : ChangeSpec := { name := "tierMakes", fn := fun _ => fun
  | [d1, d2] => { results := [.lit (.bool true)], args := [d1, d2] }
  | _ => none }
def tierMakesRow : OpenClaim := { program := "ytoccmklbjabaaaadoor", sum := "13b08c024858de7b036fe6ddf57ae2bcdfd9208f976aef2ceca2b374c70880f5", func := "twinkeep/twinkeeplaw4.TierMakes", spec := "tierMakes", named := ["twinkeep/tier.widths"], apart := false, laid := [("twinkeep/tier.widths", laid_twinkeep_tier_widths)] }
def TierMakesSaid : Prop := tierMakesRow.holds Tryd.pinned (OpenSpec.ofChange tierMakesSpec)

/-- ITS FALSE NEIGHBOUR: 'it returns false'. Refute it at one input. -/
def tierMakesWrong : ChangeSpec := { name := "tierMakes", fn := fun _ => fun
  | [d1, d2] => { results := [.lit (.bool false)], args := [d1, d2] }
  | _ => none }
def TierMakesWrongFalsely : Prop := tierMakesRow.holds Tryd.pinned (OpenSpec.ofChange tierMakesWrong)

/-- 'twinkeeplaw4.TierSteps': WHATEVER THE INPUT: true; the input reads as it did. -/
def tierStepsSpec : ChangeSpec := { name := "tierSteps", fn := fun _ => fun
  | [d1, d2] => { results := [.lit (.bool true)], args := [d1, d2] }
  | _ => none }
def tierStepsRow : OpenClaim := { program := "ytoccmklbjabaaaadoor", sum := "13b08c024858de7b036fe6ddf57ae2bcdfd9208f976aef2ceca2b374c70880f5", func := "twinkeep/twinkeeplaw4.TierSteps", spec := "tierSteps", named := ["twinkeep/tier.widths"], apart := false, laid := [("twinkeep/tier.widths", laid_twinkeep_tier_widths)] }
def TierStepsSaid : Prop := tierStepsRow.holds Tryd.pinned (OpenSpec.ofChange tierStepsSpec)

/-- ITS FALSE NEIGHBOUR: 'it returns false'. Refute it at one input. -/
def tierStepsWrong : ChangeSpec := { name := "tierSteps", fn := fun _ => fun
  | [d1, d2] => { results := [.lit (.bool false)], args := [d1, d2] }
  | _ => none }
def TierStepsWrongFalsely : Prop := tierStepsRow.holds Tryd.pinned (OpenSpec.ofChange tierStepsWrong)

/-- 'twinkeeplaw4.TierCounts': WHATEVER THE INPUT: true; the input reads as it did. -/
def tierCountsSpec : ChangeSpec := { name := "tierCounts", fn := fun _ => fun
  | [d1, d2, d3] => { results := [.lit (.bool true)], args := [d1, d2, d3] }
  | _ => none }
def tierCountsRow : OpenClaim := { program := "ytoccmklbjabaaaadoor", sum := "13b08c024858de7b036fe6ddf57ae2bcdfd9208f976aef2ceca2b374c70880f5", func := "twinkeep/twinkeeplaw4.TierCounts", spec := "tierCounts", named := ["twinkeep/tier.widths"], apart := false, laid := [("twinkeep/tier.widths", laid_twinkeep_tier_widths)] }
def TierCountsSaid : Prop := tierCountsRow.holds Tryd.pinned (OpenSpec.ofChange tierCountsSpec)

/-- ITS FALSE NEIGHBOUR: 'it returns false'. Refute it at one input. -/
def tierCountsWrong : ChangeSpec := { name := "tierCounts", fn := fun _ => fun
  | [d1, d2, d3] => { results := [.lit (.bool false)], args := [d1, d2, d3] }
  | _ => none }
def TierCountsWrongFalsely : Prop := tierCountsRow.holds Tryd.pinned (OpenSpec.ofChange tierCountsWrong)

/-- 'twinkeeplaw4.TierFloors': WHATEVER THE INPUT: true; the input reads as it did. -/
def tierFloorsSpec : ChangeSpec := { name := "tierFloors", fn := fun _ => fun
  | [d1, d2] => { results := [.lit (.bool true)], args := [d1, d2] }
  | _ => none }
def tierFloorsRow : OpenClaim := { program := "ytoccmklbjabaaaadoor", sum := "13b08c024858de7b036fe6ddf57ae2bcdfd9208f976aef2ceca2b374c70880f5", func := "twinkeep/twinkeeplaw4.TierFloors", spec := "tierFloors", named := ["twinkeep/tier.widths"], apart := false, laid := [("twinkeep/tier.widths", laid_twinkeep_tier_widths)] }
def TierFloorsSaid : Prop := tierFloorsRow.holds Tryd.pinned (OpenSpec.ofChange tierFloorsSpec)

/-- ITS FALSE NEIGHBOUR: 'it returns false'. Refute it at one input. -/
def tierFloorsWrong : ChangeSpec := { name := "tierFloors", fn := fun _ => fun
  | [d1, d2] => { results := [.lit (.bool false)], args := [d1, d2] }
  | _ => none }
def TierFloorsWrongFalsely : Prop := tierFloorsRow.holds Tryd.pinned (OpenSpec.ofChange tierFloorsWrong)

/- THE SECOND FORM. 'bulk': how many values and letters a reading holds, each counted each time it is reached (what is shared counts as often as it is met; a slice's spare places count too). A statement '..UptoSaid' is the law's where the arguments, and the package variables that the reading takes, are together of bulk at most 1048576: NARROWER than '..Said'. Prove '..Said' where nothing that the law and all that it calls make is longer than what came in: it says more and counts as full. Else prove '..UptoSaid'. A law counts once. -/
mutual
def uptoBulk {H : Type} : DataW H → Nat
  | .lit (.string bytes) => bytes.length + 1
  | .lit _ => 1
  | .nil => 1
  | .ptr d => uptoBulk d + 1
  | .slice elems spare => uptoBulkAll elems + uptoBulkAll spare + 1
  | .agg parts => uptoBulkAll parts + 1
  | .iface _ d => uptoBulk d + 1
  | .map entries => uptoBulkEntries entries + 1
  | .held _ => 1
def uptoBulkAll {H : Type} : List (DataW H) → Nat
  | [] => 0
  | d :: r => uptoBulk d + uptoBulkAll r
def uptoBulkEntries {H : Type} : List (Lit × DataW H) → Nat
  | [] => 0
  | x :: r => uptoBulkEntry x + uptoBulkEntries r
def uptoBulkEntry {H : Type} : Lit × DataW H → Nat
  | (.string bytes, d) => bytes.length + uptoBulk d + 1
  | (_, d) => uptoBulk d + 1
 end
def uptoSmall : (H : Type) → List (DataW H) → Bool := fun _ ds => decide (uptoBulkAll ds ≤ 1048576)
def OpenSpec.upto (s : _root_.Go.ChangeSpec) : _root_.Go.OpenSpec := { _root_.Go.OpenSpec.ofChange s with cond := some uptoSmall }

/-- 'twinkeeplaw4.TierWrong', WHERE WHAT IT READS IS OF BULK AT MOST 1048576: true; the input reads as it did. -/
def tierWrongUptoRow : OpenClaim := { program := "ytoccmklbjabaaaadoor", sum := "13b08c024858de7b036fe6ddf57ae2bcdfd9208f976aef2ceca2b374c70880f5", func := "twinkeep/twinkeeplaw4.TierWrong", spec := "tierWrong", named := ["twinkeep/tier.widths"], apart := false, laid := [("twinkeep/tier.widths", laid_twinkeep_tier_widths)], narrowed := true }
def TierWrongUptoSaid : Prop := tierWrongUptoRow.holds Tryd.pinned (OpenSpec.upto tierWrongSpec)

/-- 'twinkeeplaw4.TierAsks', WHERE WHAT IT READS IS OF BULK AT MOST 1048576: true; the input reads as it did. -/
def tierAsksUptoRow : OpenClaim := { program := "ytoccmklbjabaaaadoor", sum := "13b08c024858de7b036fe6ddf57ae2bcdfd9208f976aef2ceca2b374c70880f5", func := "twinkeep/twinkeeplaw4.TierAsks", spec := "tierAsks", named := ["twinkeep/tier.widths"], apart := false, laid := [("twinkeep/tier.widths", laid_twinkeep_tier_widths)], narrowed := true }
def TierAsksUptoSaid : Prop := tierAsksUptoRow.holds Tryd.pinned (OpenSpec.upto tierAsksSpec)

/-- 'twinkeeplaw4.TierMakes', WHERE WHAT IT READS IS OF BULK AT MOST 1048576: true; the input reads as it did. -/
def tierMakesUptoRow : OpenClaim := { program := "ytoccmklbjabaaaadoor", sum := "13b08c024858de7b036fe6ddf57ae2bcdfd9208f976aef2ceca2b374c70880f5", func := "twinkeep/twinkeeplaw4.TierMakes", spec := "tierMakes", named := ["twinkeep/tier.widths"], apart := false, laid := [("twinkeep/tier.widths", laid_twinkeep_tier_widths)], narrowed := true }
def TierMakesUptoSaid : Prop := tierMakesUptoRow.holds Tryd.pinned (OpenSpec.upto tierMakesSpec)

/-- 'twinkeeplaw4.TierSteps', WHERE WHAT IT READS IS OF BULK AT MOST 1048576: true; the input reads as it did. -/
def tierStepsUptoRow : OpenClaim := { program := "ytoccmklbjabaaaadoor", sum := "13b08c024858de7b036fe6ddf57ae2bcdfd9208f976aef2ceca2b374c70880f5", func := "twinkeep/twinkeeplaw4.TierSteps", spec := "tierSteps", named := ["twinkeep/tier.widths"], apart := false, laid := [("twinkeep/tier.widths", laid_twinkeep_tier_widths)], narrowed := true }
def TierStepsUptoSaid : Prop := tierStepsUptoRow.holds Tryd.pinned (OpenSpec.upto tierStepsSpec)

/-- 'twinkeeplaw4.TierCounts', WHERE WHAT IT READS IS OF BULK AT MOST 1048576: true; the input reads as it did. -/
def tierCountsUptoRow : OpenClaim := { program := "ytoccmklbjabaaaadoor", sum := "13b08c024858de7b036fe6ddf57ae2bcdfd9208f976aef2ceca2b374c70880f5", func := "twinkeep/twinkeeplaw4.TierCounts", spec := "tierCounts", named := ["twinkeep/tier.widths"], apart := false, laid := [("twinkeep/tier.widths", laid_twinkeep_tier_widths)], narrowed := true }
def TierCountsUptoSaid : Prop := tierCountsUptoRow.holds Tryd.pinned (OpenSpec.upto tierCountsSpec)

/-- 'twinkeeplaw4.TierFloors', WHERE WHAT IT READS IS OF BULK AT MOST 1048576: true; the input reads as it did. -/
def tierFloorsUptoRow : OpenClaim := { program := "ytoccmklbjabaaaadoor", sum := "13b08c024858de7b036fe6ddf57ae2bcdfd9208f976aef2ceca2b374c70880f5", func := "twinkeep/twinkeeplaw4.TierFloors", spec := "tierFloors", named := ["twinkeep/tier.widths"], apart := false, laid := [("twinkeep/tier.widths", laid_twinkeep_tier_widths)], narrowed := true }
def TierFloorsUptoSaid : Prop := tierFloorsUptoRow.holds Tryd.pinned (OpenSpec.upto tierFloorsSpec)

end Rows
end Go.Proofs.YtoccmklbjabaaaaDoor
