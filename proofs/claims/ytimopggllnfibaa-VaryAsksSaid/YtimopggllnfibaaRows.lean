/-
  No cell of these rows narrows 'for every input' (looked for: loops, veiled, ifaces, maps, wideKeys, modest, calm, conditions, laid).
  DERIVED. THE GIVEN ROWS OF THIS SEAT. 6 by the template 'for every input the law returns true; each argument reads behind the call as it read before'; 0 by the template 'total and deterministic' (their statements: YtimopggllnfibaaTotals.lean).
  GIVEN WITH THE SEED: the statements are not yours to turn. If you find one false, say at which input.
  Laid BY PROGRAM, IN A SANDBOX (cutbox-rows.mjs): the forced cells as the released guide's own fill.sh prints them over the translation 8c7b332f72d1922e… (all of the seat's roots in one cut). By AI agents, Wed Nov 11 2026. No macro, syntax, notation, axiom, sorry.
-/
import Derived.Test.YtimopggllnfibaaChecked
import GoSem.Claim
import GoSem.ClaimJoined
import GoSem.ClaimMapViews
import Derived.JoinedTies
import Derived.KernelRfl
namespace Go.Proofs.Ytimopggllnfibaa
/- THE CELL 'sum', in the pinned program and in every row, IS THE sha256 OF THE DUMP (.gsa) THAT YtimopggllnfibaaProg.lean LOADS. Nothing in Lean hashes anything: it is a label: what it is worth is what the hold of that sum in a sandbox is worth. -/
noncomputable def Try.pinned : Pinned := { name := "ytimopggllnfibaa", sum := "8c7b332f72d1922ede0181df3871767880aaf058a6885d2b98d3f88f1bd6b9fc", checked := Try.checked }
namespace Rows
def none {H : Type} : Left H := { results := [], args := [] }

/-- 'twinkeeplaw1.VaryOrders': WHATEVER THE INPUT: true; the input reads as it did. -/
def varyOrdersSpec : ChangeSpec := { name := "varyOrders", fn := fun _ => fun
  | [d1, d2] => { results := [.lit (.bool true)], args := [d1, d2] }
  | _ => none }
def varyOrdersRow : OpenClaim := { program := "ytimopggllnfibaa", sum := "8c7b332f72d1922ede0181df3871767880aaf058a6885d2b98d3f88f1bd6b9fc", func := "twinkeep/twinkeeplaw1.VaryOrders", spec := "varyOrders", apart := false }
def VaryOrdersSaid : Prop := varyOrdersRow.holds Try.pinned (OpenSpec.ofChange varyOrdersSpec)

/-- ITS FALSE NEIGHBOUR: 'it returns false'. Refute it at one input. -/
def varyOrdersWrong : ChangeSpec := { name := "varyOrders", fn := fun _ => fun
  | [d1, d2] => { results := [.lit (.bool false)], args := [d1, d2] }
  | _ => none }
def VaryOrdersWrongFalsely : Prop := varyOrdersRow.holds Try.pinned (OpenSpec.ofChange varyOrdersWrong)

/-- 'twinkeeplaw1.VaryAsks': WHATEVER THE INPUT: true; the input reads as it did. -/
def varyAsksSpec : ChangeSpec := { name := "varyAsks", fn := fun _ => fun
  | [d1, d2, d3, d4] => { results := [.lit (.bool true)], args := [d1, d2, d3, d4] }
  | _ => none }
def varyAsksRow : OpenClaim := { program := "ytimopggllnfibaa", sum := "8c7b332f72d1922ede0181df3871767880aaf058a6885d2b98d3f88f1bd6b9fc", func := "twinkeep/twinkeeplaw1.VaryAsks", spec := "varyAsks", apart := false }
def VaryAsksSaid : Prop := varyAsksRow.holds Try.pinned (OpenSpec.ofChange varyAsksSpec)

/-- ITS FALSE NEIGHBOUR: 'it returns false'. Refute it at one input. -/
def varyAsksWrong : ChangeSpec := { name := "varyAsks", fn := fun _ => fun
  | [d1, d2, d3, d4] => { results := [.lit (.bool false)], args := [d1, d2, d3, d4] }
  | _ => none }
def VaryAsksWrongFalsely : Prop := varyAsksRow.holds Try.pinned (OpenSpec.ofChange varyAsksWrong)

/-- 'twinkeeplaw1.VaryBack': WHATEVER THE INPUT: true; the input reads as it did. -/
def varyBackSpec : ChangeSpec := { name := "varyBack", fn := fun _ => fun
  | [d1, d2] => { results := [.lit (.bool true)], args := [d1, d2] }
  | _ => none }
def varyBackRow : OpenClaim := { program := "ytimopggllnfibaa", sum := "8c7b332f72d1922ede0181df3871767880aaf058a6885d2b98d3f88f1bd6b9fc", func := "twinkeep/twinkeeplaw1.VaryBack", spec := "varyBack", apart := false }
def VaryBackSaid : Prop := varyBackRow.holds Try.pinned (OpenSpec.ofChange varyBackSpec)

/-- ITS FALSE NEIGHBOUR: 'it returns false'. Refute it at one input. -/
def varyBackWrong : ChangeSpec := { name := "varyBack", fn := fun _ => fun
  | [d1, d2] => { results := [.lit (.bool false)], args := [d1, d2] }
  | _ => none }
def VaryBackWrongFalsely : Prop := varyBackRow.holds Try.pinned (OpenSpec.ofChange varyBackWrong)

/-- 'twinkeeplaw1.VarySizes': WHATEVER THE INPUT: true; the input reads as it did. -/
def varySizesSpec : ChangeSpec := { name := "varySizes", fn := fun _ => fun
  | [d1, d2, d3] => { results := [.lit (.bool true)], args := [d1, d2, d3] }
  | _ => none }
def varySizesRow : OpenClaim := { program := "ytimopggllnfibaa", sum := "8c7b332f72d1922ede0181df3871767880aaf058a6885d2b98d3f88f1bd6b9fc", func := "twinkeep/twinkeeplaw1.VarySizes", spec := "varySizes", apart := false }
def VarySizesSaid : Prop := varySizesRow.holds Try.pinned (OpenSpec.ofChange varySizesSpec)

/-- ITS FALSE NEIGHBOUR: 'it returns false'. Refute it at one input. -/
def varySizesWrong : ChangeSpec := { name := "varySizes", fn := fun _ => fun
  | [d1, d2, d3] => { results := [.lit (.bool false)], args := [d1, d2, d3] }
  | _ => none }
def VarySizesWrongFalsely : Prop := varySizesRow.holds Try.pinned (OpenSpec.ofChange varySizesWrong)

/-- 'twinkeeplaw1.VaryZigs': WHATEVER THE INPUT: true; the input reads as it did. -/
def varyZigsSpec : ChangeSpec := { name := "varyZigs", fn := fun _ => fun
  | [d1, d2] => { results := [.lit (.bool true)], args := [d1, d2] }
  | _ => none }
def varyZigsRow : OpenClaim := { program := "ytimopggllnfibaa", sum := "8c7b332f72d1922ede0181df3871767880aaf058a6885d2b98d3f88f1bd6b9fc", func := "twinkeep/twinkeeplaw1.VaryZigs", spec := "varyZigs", apart := false }
def VaryZigsSaid : Prop := varyZigsRow.holds Try.pinned (OpenSpec.ofChange varyZigsSpec)

/-- ITS FALSE NEIGHBOUR: 'it returns false'. Refute it at one input. -/
def varyZigsWrong : ChangeSpec := { name := "varyZigs", fn := fun _ => fun
  | [d1, d2] => { results := [.lit (.bool false)], args := [d1, d2] }
  | _ => none }
def VaryZigsWrongFalsely : Prop := varyZigsRow.holds Try.pinned (OpenSpec.ofChange varyZigsWrong)

/-- 'twinkeeplaw1.VaryCuts': WHATEVER THE INPUT: true; the input reads as it did. -/
def varyCutsSpec : ChangeSpec := { name := "varyCuts", fn := fun _ => fun
  | [d1, d2, d3] => { results := [.lit (.bool true)], args := [d1, d2, d3] }
  | _ => none }
def varyCutsRow : OpenClaim := { program := "ytimopggllnfibaa", sum := "8c7b332f72d1922ede0181df3871767880aaf058a6885d2b98d3f88f1bd6b9fc", func := "twinkeep/twinkeeplaw1.VaryCuts", spec := "varyCuts", apart := false }
def VaryCutsSaid : Prop := varyCutsRow.holds Try.pinned (OpenSpec.ofChange varyCutsSpec)

/-- ITS FALSE NEIGHBOUR: 'it returns false'. Refute it at one input. -/
def varyCutsWrong : ChangeSpec := { name := "varyCuts", fn := fun _ => fun
  | [d1, d2, d3] => { results := [.lit (.bool false)], args := [d1, d2, d3] }
  | _ => none }
def VaryCutsWrongFalsely : Prop := varyCutsRow.holds Try.pinned (OpenSpec.ofChange varyCutsWrong)

/- THE SECOND FORM. 'bulk': how many values and letters a reading holds, each counted each time it is reached (what is shared counts as often as it is met; a slice's spare places count too). A statement '..UptoSaid' is the law's where the arguments, and the package variables that the reading takes, are together of bulk at most 1048576: NARROWER than '..Said'. Prove '..Said' where nothing that the law and all that it calls make is longer than what came in: it says more and counts as full. Else prove '..UptoSaid'. A law counts once. -/
mutual
def uptoBulk {H : Type} : DataW H → Nat
  | .lit (.string bytes) => bytes.length + 1
  | .lit _ => 1
  | .nil => 1
  | .ptr d => uptoBulk d + 1
  | .slice elems spare => uptoBulkAll elems + uptoBulkAll spare + 1
  | .agg parts => uptoBulkAll parts + 1
  | .iface _ d => uptoBulk d + 1
  | .map entries => uptoBulkEntries entries + 1
  | .held _ => 1
def uptoBulkAll {H : Type} : List (DataW H) → Nat
  | [] => 0
  | d :: r => uptoBulk d + uptoBulkAll r
def uptoBulkEntries {H : Type} : List (Lit × DataW H) → Nat
  | [] => 0
  | x :: r => uptoBulkEntry x + uptoBulkEntries r
def uptoBulkEntry {H : Type} : Lit × DataW H → Nat
  | (.string bytes, d) => bytes.length + uptoBulk d + 1
  | (_, d) => uptoBulk d + 1
 end
def uptoSmall : (H : Type) → List (DataW H) → Bool := fun _ ds => decide (uptoBulkAll ds ≤ 1048576)
def OpenSpec.upto (s : _root_.Go.ChangeSpec) : _root_.Go.OpenSpec := { _root_.Go.OpenSpec.ofChange s with cond := some uptoSmall }

/-- 'twinkeeplaw1.VaryOrders', WHERE WHAT IT READS IS OF BULK AT MOST 1048576: true; the input reads as it did. -/
def varyOrdersUptoRow : OpenClaim := { program := "ytimopggllnfibaa", sum := "8c7b332f72d1922ede0181df3871767880aaf058a6885d2b98d3f88f1bd6b9fc", func := "twinkeep/twinkeeplaw1.VaryOrders", spec := "varyOrders", apart := false, narrowed := true }
def VaryOrdersUptoSaid : Prop := varyOrdersUptoRow.holds Try.pinned (OpenSpec.upto varyOrdersSpec)

/-- 'twinkeeplaw1.VaryAsks', WHERE WHAT IT READS IS OF BULK AT MOST 1048576: true; the input reads as it did. -/
def varyAsksUptoRow : OpenClaim := { program := "ytimopggllnfibaa", sum := "8c7b332f72d1922ede0181df3871767880aaf058a6885d2b98d3f88f1bd6b9fc", func := "twinkeep/twinkeeplaw1.VaryAsks", spec := "varyAsks", apart := false, narrowed := true }
def VaryAsksUptoSaid : Prop := varyAsksUptoRow.holds Try.pinned (OpenSpec.upto varyAsksSpec)

/-- 'twinkeeplaw1.VaryBack', WHERE WHAT IT READS IS OF BULK AT MOST 1048576: true; the input reads as it did. -/
def varyBackUptoRow : OpenClaim := { program := "ytimopggllnfibaa", sum := "8c7b332f72d1922ede0181df3871767880aaf058a6885d2b98d3f88f1bd6b9fc", func := "twinkeep/twinkeeplaw1.VaryBack", spec := "varyBack", apart := false, narrowed := true }
def VaryBackUptoSaid : Prop := varyBackUptoRow.holds Try.pinned (OpenSpec.upto varyBackSpec)

/-- 'twinkeeplaw1.VarySizes', WHERE WHAT IT READS IS OF BULK AT MOST 1048576: true; the input reads as it did. -/
def varySizesUptoRow : OpenClaim := { program := "ytimopggllnfibaa", sum := "8c7b332f72d1922ede0181df3871767880aaf058a6885d2b98d3f88f1bd6b9fc", func := "twinkeep/twinkeeplaw1.VarySizes", spec := "varySizes", apart := false, narrowed := true }
def VarySizesUptoSaid : Prop := varySizesUptoRow.holds Try.pinned (OpenSpec.upto varySizesSpec)

/-- 'twinkeeplaw1.VaryZigs', WHERE WHAT IT READS IS OF BULK AT MOST 1048576: true; the input reads as it did. -/
def varyZigsUptoRow : OpenClaim := { program := "ytimopggllnfibaa", sum := "8c7b332f72d1922ede0181df3871767880aaf058a6885d2b98d3f88f1bd6b9fc", func := "twinkeep/twinkeeplaw1.VaryZigs", spec := "varyZigs", apart := false, narrowed := true }
def VaryZigsUptoSaid : Prop := varyZigsUptoRow.holds Try.pinned (OpenSpec.upto varyZigsSpec)

/-- 'twinkeeplaw1.VaryCuts', WHERE WHAT IT READS IS OF BULK AT MOST 1048576: true; the input reads as it did. -/
def varyCutsUptoRow : OpenClaim := { program := "ytimopggllnfibaa", sum := "8c7b332f72d1922ede0181df3871767880aaf058a6885d2b98d3f88f1bd6b9fc", func := "twinkeep/twinkeeplaw1.VaryCuts", spec := "varyCuts", apart := false, narrowed := true }
def VaryCutsUptoSaid : Prop := varyCutsUptoRow.holds Try.pinned (OpenSpec.upto varyCutsSpec)

end Rows
end Go.Proofs.Ytimopggllnfibaa
