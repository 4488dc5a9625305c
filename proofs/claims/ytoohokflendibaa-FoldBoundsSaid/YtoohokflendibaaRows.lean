/-
  No cell of these rows narrows 'for every input' (looked for: loops, veiled, ifaces, maps, wideKeys, modest, calm, conditions, laid).
  DERIVED. THE GIVEN ROWS OF THIS SEAT. 5 by the template 'for every input the law returns true; each argument reads behind the call as it read before'; 0 by the template 'total and deterministic' (their statements: YtoohokflendibaaTotals.lean).
  GIVEN WITH THE SEED: the statements are not yours to turn. If you find one false, say at which input.
  Laid BY PROGRAM, IN A SANDBOX (cutbox-rows.mjs): the forced cells as the released guide's own fill.sh prints them over the translation 9bb6a4a909d1943f… (all of the seat's roots in one cut). By AI agents, Wed Nov 11 2026. No macro, syntax, notation, axiom, sorry.
-/
import Derived.Test.YtoohokflendibaaChecked
import GoSem.Claim
import GoSem.ClaimJoined
import GoSem.ClaimMapViews
import Derived.JoinedTies
import Derived.KernelRfl
namespace Go.Proofs.Ytoohokflendibaa
/- THE CELL 'sum', in the pinned program and in every row, IS THE sha256 OF THE DUMP (.gsa) THAT YtoohokflendibaaProg.lean LOADS. Nothing in Lean hashes anything: it is a label: what it is worth is what the hold of that sum in a sandbox is worth. -/
noncomputable def Try.pinned : Pinned := { name := "ytoohokflendibaa", sum := "9bb6a4a909d1943fe7a85a7d691b5f82da12ec79583c1f81320634845cc82d52", checked := Try.checked }
namespace Rows
def none {H : Type} : Left H := { results := [], args := [] }

/-- 'twinkeeplaw3.FoldParts': WHATEVER THE INPUT: true; the input reads as it did. -/
def foldPartsSpec : ChangeSpec := { name := "foldParts", fn := fun _ => fun
  | [d1, d2] => { results := [.lit (.bool true)], args := [d1, d2] }
  | _ => none }
def foldPartsRow : OpenClaim := { program := "ytoohokflendibaa", sum := "9bb6a4a909d1943fe7a85a7d691b5f82da12ec79583c1f81320634845cc82d52", func := "twinkeep/twinkeeplaw3.FoldParts", spec := "foldParts", apart := false }
def FoldPartsSaid : Prop := foldPartsRow.holds Try.pinned (OpenSpec.ofChange foldPartsSpec)

/-- ITS FALSE NEIGHBOUR: 'it returns false'. Refute it at one input. -/
def foldPartsWrong : ChangeSpec := { name := "foldParts", fn := fun _ => fun
  | [d1, d2] => { results := [.lit (.bool false)], args := [d1, d2] }
  | _ => none }
def FoldPartsWrongFalsely : Prop := foldPartsRow.holds Try.pinned (OpenSpec.ofChange foldPartsWrong)

/-- 'twinkeeplaw3.FoldBounds': WHATEVER THE INPUT: true; the input reads as it did. -/
def foldBoundsSpec : ChangeSpec := { name := "foldBounds", fn := fun _ => fun
  | [d] => { results := [.lit (.bool true)], args := [d] }
  | _ => none }
def foldBoundsRow : OpenClaim := { program := "ytoohokflendibaa", sum := "9bb6a4a909d1943fe7a85a7d691b5f82da12ec79583c1f81320634845cc82d52", func := "twinkeep/twinkeeplaw3.FoldBounds", spec := "foldBounds", apart := false }
def FoldBoundsSaid : Prop := foldBoundsRow.holds Try.pinned (OpenSpec.ofChange foldBoundsSpec)

/-- ITS FALSE NEIGHBOUR: 'it returns false'. Refute it at one input. -/
def foldBoundsWrong : ChangeSpec := { name := "foldBounds", fn := fun _ => fun
  | [d] => { results := [.lit (.bool false)], args := [d] }
  | _ => none }
def FoldBoundsWrongFalsely : Prop := foldBoundsRow.holds Try.pinned (OpenSpec.ofChange foldBoundsWrong)

/-- 'twinkeeplaw3.FoldAdds': WHATEVER THE INPUT: true; the input reads as it did. -/
def foldAddsSpec : ChangeSpec := { name := "foldAdds", fn := fun _ => fun
  | [d1, d2] => { results := [.lit (.bool true)], args := [d1, d2] }
  | _ => none }
def foldAddsRow : OpenClaim := { program := "ytoohokflendibaa", sum := "9bb6a4a909d1943fe7a85a7d691b5f82da12ec79583c1f81320634845cc82d52", func := "twinkeep/twinkeeplaw3.FoldAdds", spec := "foldAdds", apart := false }
def FoldAddsSaid : Prop := foldAddsRow.holds Try.pinned (OpenSpec.ofChange foldAddsSpec)

/-- ITS FALSE NEIGHBOUR: 'it returns false'. Refute it at one input. -/
def foldAddsWrong : ChangeSpec := { name := "foldAdds", fn := fun _ => fun
  | [d1, d2] => { results := [.lit (.bool false)], args := [d1, d2] }
  | _ => none }
def FoldAddsWrongFalsely : Prop := foldAddsRow.holds Try.pinned (OpenSpec.ofChange foldAddsWrong)

/-- 'twinkeeplaw3.FoldThrees': WHATEVER THE INPUT: true; the input reads as it did. -/
def foldThreesSpec : ChangeSpec := { name := "foldThrees", fn := fun _ => fun
  | [d1, d2, d3] => { results := [.lit (.bool true)], args := [d1, d2, d3] }
  | _ => none }
def foldThreesRow : OpenClaim := { program := "ytoohokflendibaa", sum := "9bb6a4a909d1943fe7a85a7d691b5f82da12ec79583c1f81320634845cc82d52", func := "twinkeep/twinkeeplaw3.FoldThrees", spec := "foldThrees", apart := false }
def FoldThreesSaid : Prop := foldThreesRow.holds Try.pinned (OpenSpec.ofChange foldThreesSpec)

/-- ITS FALSE NEIGHBOUR: 'it returns false'. Refute it at one input. -/
def foldThreesWrong : ChangeSpec := { name := "foldThrees", fn := fun _ => fun
  | [d1, d2, d3] => { results := [.lit (.bool false)], args := [d1, d2, d3] }
  | _ => none }
def FoldThreesWrongFalsely : Prop := foldThreesRow.holds Try.pinned (OpenSpec.ofChange foldThreesWrong)

/-- 'twinkeeplaw3.FoldOrder': WHATEVER THE INPUT: true; the input reads as it did. -/
def foldOrderSpec : ChangeSpec := { name := "foldOrder", fn := fun _ => fun
  | [d] => { results := [.lit (.bool true)], args := [d] }
  | _ => none }
def foldOrderRow : OpenClaim := { program := "ytoohokflendibaa", sum := "9bb6a4a909d1943fe7a85a7d691b5f82da12ec79583c1f81320634845cc82d52", func := "twinkeep/twinkeeplaw3.FoldOrder", spec := "foldOrder", apart := false }
def FoldOrderSaid : Prop := foldOrderRow.holds Try.pinned (OpenSpec.ofChange foldOrderSpec)

/-- ITS FALSE NEIGHBOUR: 'it returns false'. Refute it at one input. -/
def foldOrderWrong : ChangeSpec := { name := "foldOrder", fn := fun _ => fun
  | [d] => { results := [.lit (.bool false)], args := [d] }
  | _ => none }
def FoldOrderWrongFalsely : Prop := foldOrderRow.holds Try.pinned (OpenSpec.ofChange foldOrderWrong)

/- THE SECOND FORM. 'bulk': how many values and letters a reading holds, each counted each time it is reached (what is shared counts as often as it is met; a slice's spare places count too). A statement '..UptoSaid' is the law's where the arguments, and the package variables that the reading takes, are together of bulk at most 1048576: NARROWER than '..Said'. Prove '..Said' where nothing that the law and all that it calls make is longer than what came in: it says more and counts as full. Else prove '..UptoSaid'. A law counts once. -/
mutual
def uptoBulk {H : Type} : DataW H → Nat
  | .lit (.string bytes) => bytes.length + 1
  | .lit _ => 1
  | .nil => 1
  | .ptr d => uptoBulk d + 1
  | .slice elems spare => uptoBulkAll elems + uptoBulkAll spare + 1
  | .agg parts => uptoBulkAll parts + 1
  | .iface _ d => uptoBulk d + 1
  | .map entries => uptoBulkEntries entries + 1
  | .held _ => 1
def uptoBulkAll {H : Type} : List (DataW H) → Nat
  | [] => 0
  | d :: r => uptoBulk d + uptoBulkAll r
def uptoBulkEntries {H : Type} : List (Lit × DataW H) → Nat
  | [] => 0
  | x :: r => uptoBulkEntry x + uptoBulkEntries r
def uptoBulkEntry {H : Type} : Lit × DataW H → Nat
  | (.string bytes, d) => bytes.length + uptoBulk d + 1
  | (_, d) => uptoBulk d + 1
 end
def uptoSmall : (H : Type) → List (DataW H) → Bool := fun _ ds => decide (uptoBulkAll ds ≤ 1048576)
def OpenSpec.upto (s : _root_.Go.ChangeSpec) : _root_.Go.OpenSpec := { _root_.Go.OpenSpec.ofChange s with cond := some uptoSmall }

/-- 'twinkeeplaw3.FoldParts', WHERE WHAT IT READS IS OF BULK AT MOST 1048576: true; the input reads as it did. -/
def foldPartsUptoRow : OpenClaim := { program := "ytoohokflendibaa", sum := "9bb6a4a909d1943fe7a85a7d691b5f82da12ec79583c1f81320634845cc82d52", func := "twinkeep/twinkeeplaw3.FoldParts", spec := "foldParts", apart := false, narrowed := true }
def FoldPartsUptoSaid : Prop := foldPartsUptoRow.holds Try.pinned (OpenSpec.upto foldPartsSpec)

/-- 'twinkeeplaw3.FoldBounds', WHERE WHAT IT READS IS OF BULK AT MOST 1048576: true; the input reads as it did. -/
def foldBoundsUptoRow : OpenClaim := { program := "ytoohokflendibaa", sum := "9bb6a4a909d1943fe7a85a7d691b5f82da12ec79583c1f81320634845cc82d52", func := "twinkeep/twinkeeplaw3.FoldBounds", spec := "foldBounds", apart := false, narrowed := true }
def FoldBoundsUptoSaid : Prop := foldBoundsUptoRow.holds Try.pinned (OpenSpec.upto foldBoundsSpec)

/-- 'twinkeeplaw3.FoldAdds', WHERE WHAT IT READS IS OF BULK AT MOST 1048576: true; the input reads as it did. -/
def foldAddsUptoRow : OpenClaim := { program := "ytoohokflendibaa", sum := "9bb6a4a909d1943fe7a85a7d691b5f82da12ec79583c1f81320634845cc82d52", func := "twinkeep/twinkeeplaw3.FoldAdds", spec := "foldAdds", apart := false, narrowed := true }
def FoldAddsUptoSaid : Prop := foldAddsUptoRow.holds Try.pinned (OpenSpec.upto foldAddsSpec)

/-- 'twinkeeplaw3.FoldThrees', WHERE WHAT IT READS IS OF BULK AT MOST 1048576: true; the input reads as it did. -/
def foldThreesUptoRow : OpenClaim := { program := "ytoohokflendibaa", sum := "9bb6a4a909d1943fe7a85a7d691b5f82da12ec79583c1f81320634845cc82d52", func := "twinkeep/twinkeeplaw3.FoldThrees", spec := "foldThrees", apart := false, narrowed := true }
def FoldThreesUptoSaid : Prop := foldThreesUptoRow.holds Try.pinned (OpenSpec.upto foldThreesSpec)

/-- 'twinkeeplaw3.FoldOrder', WHERE WHAT IT READS IS OF BULK AT MOST 1048576: true; the input reads as it did. -/
def foldOrderUptoRow : OpenClaim := { program := "ytoohokflendibaa", sum := "9bb6a4a909d1943fe7a85a7d691b5f82da12ec79583c1f81320634845cc82d52", func := "twinkeep/twinkeeplaw3.FoldOrder", spec := "foldOrder", apart := false, narrowed := true }
def FoldOrderUptoSaid : Prop := foldOrderUptoRow.holds Try.pinned (OpenSpec.upto foldOrderSpec)

end Rows
end Go.Proofs.Ytoohokflendibaa
