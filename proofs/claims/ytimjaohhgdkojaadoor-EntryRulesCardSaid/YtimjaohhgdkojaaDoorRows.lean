/-
  NARROWER THAN 'FOR EVERY INPUT', by the rows' own cells (each row's printed sentence says how): EntryRules: laid · EntryAsks: laid · EntryBack: laid · EntryFolds: laid · EntryTwice: laid.
  DERIVED. THE GIVEN ROWS OF THIS SEAT. 5 by the template 'for every input the law returns true; each argument reads behind the call as it read before'; 0 by the template 'total and deterministic' (their statements: YtimjaohhgdkojaaDoorTotals.lean).
  GIVEN WITH THE SEED: the statements are not yours to turn. If you find one false, say at which input.
  Laid BY PROGRAM, IN A SANDBOX (cutbox-rows.mjs): the forced cells as the released guide's own fill.sh prints them over the translation b64ec364f9737c5f… (all of the seat's roots in one cut). By AI agents, Wed Nov 11 2026. No macro, syntax, notation, axiom, sorry.
-/
import Derived.Test.YtimjaohhgdkojaaDoorChecked
import GoSem.Claim
import GoSem.ClaimJoined
import GoSem.ClaimMapViews
import Derived.JoinedTies
import Derived.KernelRfl
namespace Go.Proofs.YtimjaohhgdkojaaDoor
/- THE CELL 'sum', in the pinned program and in every row, IS THE sha256 OF THE DUMP (.gsa) THAT YtimjaohhgdkojaaDoorProg.lean LOADS. Nothing in Lean hashes anything: it is a label: what it is worth is what the hold of that sum in a sandbox is worth. -/
noncomputable def Tryd.pinned : Pinned := { name := "ytimjaohhgdkojaadoor", sum := "b64ec364f9737c5f5d2480abf6c04764a712891591891de6f2ba091a20f7eb2d", checked := Tryd.checked }
namespace Rows
def none {H : Type} : Left H := { results := [], args := [] }

/- WHAT THE LISTED PACKAGE-LEVEL VARIABLES READ AS WHEN THE CALL BEGINS. Each datum BY PROGRAM (the guide's laid-datum.mjs) off the statement by which the dump's own 'gosem.cut.vars' lays the variable. In a bare row this is a premise. The card (YtimjaohhgdkojaaDoorCards.lean) ties it to the program's text. -/
def laid_twinkeep_policy_names {H : Type} : DataW H := .agg [.lit (.string [114, 97, 119]), .lit (.string [53, 109]), .lit (.string [49, 104]), .lit (.string [49, 100])]

/-- 'twinkeeplaw9.EntryRules': WHATEVER THE INPUT: true; the input reads as it did. -/
def entryRulesSpec : ChangeSpec := { name := "entryRules", fn := fun _ => fun
  | [d1, d2] => { results := [.lit (.bool true)], args := [d1, d2] }
  | _ => none }
def entryRulesRow : OpenClaim := { program := "ytimjaohhgdkojaadoor", sum := "b64ec364f9737c5f5d2480abf6c04764a712891591891de6f2ba091a20f7eb2d", func := "twinkeep/twinkeeplaw9.EntryRules", spec := "entryRules", inPlace := ["internal/bytealg.IndexByteString", "internal/bytealg.IndexString"], unfollowed := true, recurses := true, named := ["internal/bytealg.MaxLen", "twinkeep/policy.names"], apart := false, laid := [("twinkeep/policy.names", laid_twinkeep_policy_names)] }
def EntryRulesSaid : Prop := entryRulesRow.holds Tryd.pinned (OpenSpec.ofChange entryRulesSpec)

/-- ITS FALSE NEIGHBOUR: 'it returns false'. Refute it at one input. -/
def entryRulesWrong : ChangeSpec := { name := "entryRules", fn := fun _ => fun
  | [d1, d2] => { results := [.lit (.bool false)], args := [d1, d2] }
  | _ => none }
def EntryRulesWrongFalsely : Prop := entryRulesRow.holds Tryd.pinned (OpenSpec.ofChange entryRulesWrong)

/-- 'twinkeeplaw9.EntryAsks': WHATEVER THE INPUT: true; the input reads as it did. -/
def entryAsksSpec : ChangeSpec := { name := "entryAsks", fn := fun _ => fun
  | [d1, d2, d3, d4] => { results := [.lit (.bool true)], args := [d1, d2, d3, d4] }
  | _ => none }
def entryAsksRow : OpenClaim := { program := "ytimjaohhgdkojaadoor", sum := "b64ec364f9737c5f5d2480abf6c04764a712891591891de6f2ba091a20f7eb2d", func := "twinkeep/twinkeeplaw9.EntryAsks", spec := "entryAsks", inPlace := ["internal/bytealg.IndexByteString", "internal/bytealg.IndexString"], unfollowed := true, recurses := true, named := ["internal/bytealg.MaxLen", "twinkeep/policy.names"], apart := false, laid := [("twinkeep/policy.names", laid_twinkeep_policy_names)] }
def EntryAsksSaid : Prop := entryAsksRow.holds Tryd.pinned (OpenSpec.ofChange entryAsksSpec)

/-- ITS FALSE NEIGHBOUR: 'it returns false'. Refute it at one input. -/
def entryAsksWrong : ChangeSpec := { name := "entryAsks", fn := fun _ => fun
  | [d1, d2, d3, d4] => { results := [.lit (.bool false)], args := [d1, d2, d3, d4] }
  | _ => none }
def EntryAsksWrongFalsely : Prop := entryAsksRow.holds Tryd.pinned (OpenSpec.ofChange entryAsksWrong)

/-- 'twinkeeplaw9.EntryBack': WHATEVER THE INPUT: true; the input reads as it did. -/
def entryBackSpec : ChangeSpec := { name := "entryBack", fn := fun _ => fun
  | [d1, d2, d3] => { results := [.lit (.bool true)], args := [d1, d2, d3] }
  | _ => none }
def entryBackRow : OpenClaim := { program := "ytimjaohhgdkojaadoor", sum := "b64ec364f9737c5f5d2480abf6c04764a712891591891de6f2ba091a20f7eb2d", func := "twinkeep/twinkeeplaw9.EntryBack", spec := "entryBack", inPlace := ["internal/bytealg.IndexByteString", "internal/bytealg.IndexString"], unfollowed := true, recurses := true, named := ["internal/bytealg.MaxLen", "twinkeep/policy.names"], apart := false, laid := [("twinkeep/policy.names", laid_twinkeep_policy_names)] }
def EntryBackSaid : Prop := entryBackRow.holds Tryd.pinned (OpenSpec.ofChange entryBackSpec)

/-- ITS FALSE NEIGHBOUR: 'it returns false'. Refute it at one input. -/
def entryBackWrong : ChangeSpec := { name := "entryBack", fn := fun _ => fun
  | [d1, d2, d3] => { results := [.lit (.bool false)], args := [d1, d2, d3] }
  | _ => none }
def EntryBackWrongFalsely : Prop := entryBackRow.holds Tryd.pinned (OpenSpec.ofChange entryBackWrong)

/-- 'twinkeeplaw9.EntryFolds': WHATEVER THE INPUT: true; the input reads as it did. -/
def entryFoldsSpec : ChangeSpec := { name := "entryFolds", fn := fun _ => fun
  | [d1, d2] => { results := [.lit (.bool true)], args := [d1, d2] }
  | _ => none }
def entryFoldsRow : OpenClaim := { program := "ytimjaohhgdkojaadoor", sum := "b64ec364f9737c5f5d2480abf6c04764a712891591891de6f2ba091a20f7eb2d", func := "twinkeep/twinkeeplaw9.EntryFolds", spec := "entryFolds", inPlace := ["internal/bytealg.IndexByteString", "internal/bytealg.IndexString"], unfollowed := true, recurses := true, named := ["internal/bytealg.MaxLen", "twinkeep/policy.names"], apart := false, laid := [("twinkeep/policy.names", laid_twinkeep_policy_names)] }
def EntryFoldsSaid : Prop := entryFoldsRow.holds Tryd.pinned (OpenSpec.ofChange entryFoldsSpec)

/-- ITS FALSE NEIGHBOUR: 'it returns false'. Refute it at one input. -/
def entryFoldsWrong : ChangeSpec := { name := "entryFolds", fn := fun _ => fun
  | [d1, d2] => { results := [.lit (.bool false)], args := [d1, d2] }
  | _ => none }
def EntryFoldsWrongFalsely : Prop := entryFoldsRow.holds Tryd.pinned (OpenSpec.ofChange entryFoldsWrong)

/-- 'twinkeeplaw9.EntryTwice': WHATEVER THE INPUT: true; the input reads as it did. -/
def entryTwiceSpec : ChangeSpec := { name := "entryTwice", fn := fun _ => fun
  | [d1, d2] => { results := [.lit (.bool true)], args := [d1, d2] }
  | _ => none }
def entryTwiceRow : OpenClaim := { program := "ytimjaohhgdkojaadoor", sum := "b64ec364f9737c5f5d2480abf6c04764a712891591891de6f2ba091a20f7eb2d", func := "twinkeep/twinkeeplaw9.EntryTwice", spec := "entryTwice", inPlace := ["internal/bytealg.IndexByteString", "internal/bytealg.IndexString"], unfollowed := true, recurses := true, named := ["internal/bytealg.MaxLen", "twinkeep/policy.names"], apart := false, laid := [("twinkeep/policy.names", laid_twinkeep_policy_names)] }
def EntryTwiceSaid : Prop := entryTwiceRow.holds Tryd.pinned (OpenSpec.ofChange entryTwiceSpec)

/-- ITS FALSE NEIGHBOUR: 'it returns false'. Refute it at one input. -/
def entryTwiceWrong : ChangeSpec := { name := "entryTwice", fn := fun _ => fun
  | [d1, d2] => { results := [.lit (.bool false)], args := [d1, d2] }
  | _ => none }
def EntryTwiceWrongFalsely : Prop := entryTwiceRow.holds Tryd.pinned (OpenSpec.ofChange entryTwiceWrong)

/- THE SECOND FORM. 'bulk': how many values and letters a reading holds, each counted each time it is reached (what is shared counts as often as it is met; a slice's spare places count too). A statement '..UptoSaid' is the law's where the arguments, and the package variables that the reading takes, are together of bulk at most 1048576: NARROWER than '..Said'. Prove '..Said' where nothing that the law and all that it calls make is longer than what came in: it says more and counts as full. Else prove '..UptoSaid'. A law counts once. -/
mutual
def uptoBulk {H : Type} : DataW H → Nat
  | .lit (.string bytes) => bytes.length + 1
  | .lit _ => 1
  | .nil => 1
  | .ptr d => uptoBulk d + 1
  | .slice elems spare => uptoBulkAll elems + uptoBulkAll spare + 1
  | .agg parts => uptoBulkAll parts + 1
  | .iface _ d => uptoBulk d + 1
  | .map entries => uptoBulkEntries entries + 1
  | .held _ => 1
def uptoBulkAll {H : Type} : List (DataW H) → Nat
  | [] => 0
  | d :: r => uptoBulk d + uptoBulkAll r
def uptoBulkEntries {H : Type} : List (Lit × DataW H) → Nat
  | [] => 0
  | x :: r => uptoBulkEntry x + uptoBulkEntries r
def uptoBulkEntry {H : Type} : Lit × DataW H → Nat
  | (.string bytes, d) => bytes.length + uptoBulk d + 1
  | (_, d) => uptoBulk d + 1
 end
def uptoSmall : (H : Type) → List (DataW H) → Bool := fun _ ds => decide (uptoBulkAll ds ≤ 1048576)
def OpenSpec.upto (s : _root_.Go.ChangeSpec) : _root_.Go.OpenSpec := { _root_.Go.OpenSpec.ofChange s with cond := some uptoSmall }

/-- 'twinkeeplaw9.EntryRules', WHERE WHAT IT READS IS OF BULK AT MOST 1048576: true; the input reads as it did. -/
def entryRulesUptoRow : OpenClaim := { program := "ytimjaohhgdkojaadoor", sum := "b64ec364f9737c5f5d2480abf6c04764a712891591891de6f2ba091a20f7eb2d", func := "twinkeep/twinkeeplaw9.EntryRules", spec := "entryRules", inPlace := ["internal/bytealg.IndexByteString", "internal/bytealg.IndexString"], unfollowed := true, recurses := true, named := ["internal/bytealg.MaxLen", "twinkeep/policy.names"], apart := false, laid := [("twinkeep/policy.names", laid_twinkeep_policy_names)], narrowed := true }
def EntryRulesUptoSaid : Prop := entryRulesUptoRow.holds Tryd.pinned (OpenSpec.upto entryRulesSpec)

/-- 'twinkeeplaw9.EntryAsks', WHERE WHAT IT READS IS OF BULK AT MOST 1048576: true; the input reads as it did. -/
def entryAsksUptoRow : OpenClaim := { program := "ytimjaohhgdkojaadoor", sum := "b64ec364f9737c5f5d2480abf6c04764a712891591891de6f2ba091a20f7eb2d", func := "twinkeep/twinkeeplaw9.EntryAsks", spec := "entryAsks", inPlace := ["internal/bytealg.IndexByteString", "internal/bytealg.IndexString"], unfollowed := true, recurses := true, named := ["internal/bytealg.MaxLen", "twinkeep/policy.names"], apart := false, laid := [("twinkeep/policy.names", laid_twinkeep_policy_names)], narrowed := true }
def EntryAsksUptoSaid : Prop := entryAsksUptoRow.holds Tryd.pinned (OpenSpec.upto entryAsksSpec)

/-- 'twinkeeplaw9.EntryBack', WHERE WHAT IT READS IS OF BULK AT MOST 1048576: true; the input reads as it did. -/
def entryBackUptoRow : OpenClaim := { program := "ytimjaohhgdkojaadoor", sum := "b64ec364f9737c5f5d2480abf6c04764a712891591891de6f2ba091a20f7eb2d", func := "twinkeep/twinkeeplaw9.EntryBack", spec := "entryBack", inPlace := ["internal/bytealg.IndexByteString", "internal/bytealg.IndexString"], unfollowed := true, recurses := true, named := ["internal/bytealg.MaxLen", "twinkeep/policy.names"], apart := false, laid := [("twinkeep/policy.names", laid_twinkeep_policy_names)], narrowed := true }
def EntryBackUptoSaid : Prop := entryBackUptoRow.holds Tryd.pinned (OpenSpec.upto entryBackSpec)

/-- 'twinkeeplaw9.EntryFolds', WHERE WHAT IT READS IS OF BULK AT MOST 1048576: true; the input reads as it did. -/
def entryFoldsUptoRow : OpenClaim := { program := "ytimjaohhgdkojaadoor", sum := "b64ec364f9737c5f5d2480abf6c04764a712891591891de6f2ba091a20f7eb2d", func := "twinkeep/twinkeeplaw9.EntryFolds", spec := "entryFolds", inPlace := ["internal/bytealg.IndexByteString", "internal/bytealg.IndexString"], unfollowed := true, recurses := true, named := ["internal/bytealg.MaxLen", "twinkeep/policy.names"], apart := false, laid := [("twinkeep/policy.names", laid_twinkeep_policy_names)], narrowed := true }
def EntryFoldsUptoSaid : Prop := entryFoldsUptoRow.holds Tryd.pinned (OpenSpec.upto entryFoldsSpec)

/-- 'twinkeeplaw9.EntryTwice', WHERE WHAT IT READS IS OF BULK AT MOST 1048576: true; the input reads as it did. -/
def entryTwiceUptoRow : OpenClaim := { program := "ytimjaohhgdkojaadoor", sum := "b64ec364f9737c5f5d2480abf6c04764a712891591891de6f2ba091a20f7eb2d", func := "twinkeep/twinkeeplaw9.EntryTwice", spec := "entryTwice", inPlace := ["internal/bytealg.IndexByteString", "internal/bytealg.IndexString"], unfollowed := true, recurses := true, named := ["internal/bytealg.MaxLen", "twinkeep/policy.names"], apart := false, laid := [("twinkeep/policy.names", laid_twinkeep_policy_names)], narrowed := true }
def EntryTwiceUptoSaid : Prop := entryTwiceUptoRow.holds Tryd.pinned (OpenSpec.upto entryTwiceSpec)

end Rows
end Go.Proofs.YtimjaohhgdkojaaDoor
