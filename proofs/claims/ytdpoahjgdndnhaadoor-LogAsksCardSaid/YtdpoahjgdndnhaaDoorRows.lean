/-
  NARROWER THAN 'FOR EVERY INPUT', by the rows' own cells (each row's printed sentence says how): EntryAsks: laid · EntryFolds: laid · EntryTwice: laid · LogMany: laid · LogAsks: laid · LogTorn: laid · LogTurned: laid · LogMeets: laid · LogMore: laid.
  DERIVED. THE GIVEN ROWS OF THIS SEAT. 9 by the template 'for every input the law returns true; each argument reads behind the call as it read before'; 0 by the template 'total and deterministic' (their statements: YtdpoahjgdndnhaaDoorTotals.lean).
  GIVEN WITH THE SEED: the statements are not yours to turn. If you find one false, say at which input.
  Laid BY PROGRAM, IN A SANDBOX (cutbox-rows.mjs): the forced cells as the released guide's own fill.sh prints them over the translation 016bb1c467460bf8… (all of the seat's roots in one cut). By AI agents, Wed Nov 11 2026. No macro, syntax, notation, axiom, sorry.
-/
import Derived.Test.YtdpoahjgdndnhaaDoorChecked
import GoSem.Claim
import GoSem.ClaimJoined
import GoSem.ClaimMapViews
import Derived.JoinedTies
import Derived.KernelRfl
namespace Go.Proofs.YtdpoahjgdndnhaaDoor
/- THE CELL 'sum', in the pinned program and in every row, IS THE sha256 OF THE DUMP (.gsa) THAT YtdpoahjgdndnhaaDoorProg.lean LOADS. Nothing in Lean hashes anything: it is a label: what it is worth is what the hold of that sum in a sandbox is worth. -/
noncomputable def Tryd.pinned : Pinned := { name := "ytdpoahjgdndnhaadoor", sum := "016bb1c467460bf8d6ddfbebb7928761f4e0711cc4ddad9668f1385616e008c5", checked := Tryd.checked }
namespace Rows
def none {H : Type} : Left H := { results := [], args := [] }

/- WHAT THE LISTED PACKAGE-LEVEL VARIABLES READ AS WHEN THE CALL BEGINS. Each datum BY PROGRAM (the guide's laid-datum.mjs) off the statement by which the dump's own 'gosem.cut.vars' lays the variable. In a bare row this is a premise. The card (YtdpoahjgdndnhaaDoorCards.lean) ties it to the program's text. -/
def laid_twinkeep_policy_names {H : Type} : DataW H := .agg [.lit (.string [114, 97, 119]), .lit (.string [53, 109]), .lit (.string [49, 104]), .lit (.string [49, 100])]

/-- 'twinkeeplaw9.EntryAsks': WHATEVER THE INPUT: true; the input reads as it did. -/
def entryAsksSpec : ChangeSpec := { name := "entryAsks", fn := fun _ => fun
  | [d1, d2, d3, d4] => { results := [.lit (.bool true)], args := [d1, d2, d3, d4] }
  | _ => none }
def entryAsksRow : OpenClaim := { program := "ytdpoahjgdndnhaadoor", sum := "016bb1c467460bf8d6ddfbebb7928761f4e0711cc4ddad9668f1385616e008c5", func := "twinkeep/twinkeeplaw9.EntryAsks", spec := "entryAsks", inPlace := ["internal/bytealg.IndexByteString", "internal/bytealg.IndexString"], unfollowed := true, recurses := true, named := ["internal/bytealg.MaxLen", "twinkeep/policy.names"], apart := false, laid := [("twinkeep/policy.names", laid_twinkeep_policy_names)] }
def EntryAsksSaid : Prop := entryAsksRow.holds Tryd.pinned (OpenSpec.ofChange entryAsksSpec)

/-- ITS FALSE NEIGHBOUR: 'it returns false'. Refute it at one input. -/
def entryAsksWrong : ChangeSpec := { name := "entryAsks", fn := fun _ => fun
  | [d1, d2, d3, d4] => { results := [.lit (.bool false)], args := [d1, d2, d3, d4] }
  | _ => none }
def EntryAsksWrongFalsely : Prop := entryAsksRow.holds Tryd.pinned (OpenSpec.ofChange entryAsksWrong)

/-- 'twinkeeplaw9.EntryFolds': WHATEVER THE INPUT: true; the input reads as it did. -/
def entryFoldsSpec : ChangeSpec := { name := "entryFolds", fn := fun _ => fun
  | [d1, d2] => { results := [.lit (.bool true)], args := [d1, d2] }
  | _ => none }
def entryFoldsRow : OpenClaim := { program := "ytdpoahjgdndnhaadoor", sum := "016bb1c467460bf8d6ddfbebb7928761f4e0711cc4ddad9668f1385616e008c5", func := "twinkeep/twinkeeplaw9.EntryFolds", spec := "entryFolds", inPlace := ["internal/bytealg.IndexByteString", "internal/bytealg.IndexString"], unfollowed := true, recurses := true, named := ["internal/bytealg.MaxLen", "twinkeep/policy.names"], apart := false, laid := [("twinkeep/policy.names", laid_twinkeep_policy_names)] }
def EntryFoldsSaid : Prop := entryFoldsRow.holds Tryd.pinned (OpenSpec.ofChange entryFoldsSpec)

/-- ITS FALSE NEIGHBOUR: 'it returns false'. Refute it at one input. -/
def entryFoldsWrong : ChangeSpec := { name := "entryFolds", fn := fun _ => fun
  | [d1, d2] => { results := [.lit (.bool false)], args := [d1, d2] }
  | _ => none }
def EntryFoldsWrongFalsely : Prop := entryFoldsRow.holds Tryd.pinned (OpenSpec.ofChange entryFoldsWrong)

/-- 'twinkeeplaw9.EntryTwice': WHATEVER THE INPUT: true; the input reads as it did. -/
def entryTwiceSpec : ChangeSpec := { name := "entryTwice", fn := fun _ => fun
  | [d1, d2] => { results := [.lit (.bool true)], args := [d1, d2] }
  | _ => none }
def entryTwiceRow : OpenClaim := { program := "ytdpoahjgdndnhaadoor", sum := "016bb1c467460bf8d6ddfbebb7928761f4e0711cc4ddad9668f1385616e008c5", func := "twinkeep/twinkeeplaw9.EntryTwice", spec := "entryTwice", inPlace := ["internal/bytealg.IndexByteString", "internal/bytealg.IndexString"], unfollowed := true, recurses := true, named := ["internal/bytealg.MaxLen", "twinkeep/policy.names"], apart := false, laid := [("twinkeep/policy.names", laid_twinkeep_policy_names)] }
def EntryTwiceSaid : Prop := entryTwiceRow.holds Tryd.pinned (OpenSpec.ofChange entryTwiceSpec)

/-- ITS FALSE NEIGHBOUR: 'it returns false'. Refute it at one input. -/
def entryTwiceWrong : ChangeSpec := { name := "entryTwice", fn := fun _ => fun
  | [d1, d2] => { results := [.lit (.bool false)], args := [d1, d2] }
  | _ => none }
def EntryTwiceWrongFalsely : Prop := entryTwiceRow.holds Tryd.pinned (OpenSpec.ofChange entryTwiceWrong)

/-- 'twinkeeplaw10.LogMany': WHATEVER THE INPUT: true; the input reads as it did. -/
def logManySpec : ChangeSpec := { name := "logMany", fn := fun _ => fun
  | [d] => { results := [.lit (.bool true)], args := [d] }
  | _ => none }
def logManyRow : OpenClaim := { program := "ytdpoahjgdndnhaadoor", sum := "016bb1c467460bf8d6ddfbebb7928761f4e0711cc4ddad9668f1385616e008c5", func := "twinkeep/twinkeeplaw10.LogMany", spec := "logMany", inPlace := ["internal/bytealg.IndexByteString", "internal/bytealg.IndexString"], named := ["internal/bytealg.MaxLen", "twinkeep/policy.names"], apart := false, laid := [("twinkeep/policy.names", laid_twinkeep_policy_names)] }
def LogManySaid : Prop := logManyRow.holds Tryd.pinned (OpenSpec.ofChange logManySpec)

/-- ITS FALSE NEIGHBOUR: 'it returns false'. Refute it at one input. -/
def logManyWrong : ChangeSpec := { name := "logMany", fn := fun _ => fun
  | [d] => { results := [.lit (.bool false)], args := [d] }
  | _ => none }
def LogManyWrongFalsely : Prop := logManyRow.holds Tryd.pinned (OpenSpec.ofChange logManyWrong)

/-- 'twinkeeplaw10.LogAsks': WHATEVER THE INPUT: true; the input reads as it did. -/
def logAsksSpec : ChangeSpec := { name := "logAsks", fn := fun _ => fun
  | [d1, d2, d3] => { results := [.lit (.bool true)], args := [d1, d2, d3] }
  | _ => none }
def logAsksRow : OpenClaim := { program := "ytdpoahjgdndnhaadoor", sum := "016bb1c467460bf8d6ddfbebb7928761f4e0711cc4ddad9668f1385616e008c5", func := "twinkeep/twinkeeplaw10.LogAsks", spec := "logAsks", inPlace := ["internal/bytealg.IndexByteString", "internal/bytealg.IndexString"], named := ["internal/bytealg.MaxLen", "twinkeep/policy.names"], apart := false, laid := [("twinkeep/policy.names", laid_twinkeep_policy_names)] }
def LogAsksSaid : Prop := logAsksRow.holds Tryd.pinned (OpenSpec.ofChange logAsksSpec)

/-- ITS FALSE NEIGHBOUR: 'it returns false'. Refute it at one input. -/
def logAsksWrong : ChangeSpec := { name := "logAsks", fn := fun _ => fun
  | [d1, d2, d3] => { results := [.lit (.bool false)], args := [d1, d2, d3] }
  | _ => none }
def LogAsksWrongFalsely : Prop := logAsksRow.holds Tryd.pinned (OpenSpec.ofChange logAsksWrong)

/-- 'twinkeeplaw10.LogTorn': WHATEVER THE INPUT: true; the input reads as it did. -/
def logTornSpec : ChangeSpec := { name := "logTorn", fn := fun _ => fun
  | [d1, d2] => { results := [.lit (.bool true)], args := [d1, d2] }
  | _ => none }
def logTornRow : OpenClaim := { program := "ytdpoahjgdndnhaadoor", sum := "016bb1c467460bf8d6ddfbebb7928761f4e0711cc4ddad9668f1385616e008c5", func := "twinkeep/twinkeeplaw10.LogTorn", spec := "logTorn", inPlace := ["internal/bytealg.IndexByteString", "internal/bytealg.IndexString"], named := ["internal/bytealg.MaxLen", "twinkeep/policy.names"], apart := false, laid := [("twinkeep/policy.names", laid_twinkeep_policy_names)] }
def LogTornSaid : Prop := logTornRow.holds Tryd.pinned (OpenSpec.ofChange logTornSpec)

/-- ITS FALSE NEIGHBOUR: 'it returns false'. Refute it at one input. -/
def logTornWrong : ChangeSpec := { name := "logTorn", fn := fun _ => fun
  | [d1, d2] => { results := [.lit (.bool false)], args := [d1, d2] }
  | _ => none }
def LogTornWrongFalsely : Prop := logTornRow.holds Tryd.pinned (OpenSpec.ofChange logTornWrong)

/-- 'twinkeeplaw10.LogTurned': WHATEVER THE INPUT: true; the input reads as it did. -/
def logTurnedSpec : ChangeSpec := { name := "logTurned", fn := fun _ => fun
  | [d1, d2, d3, d4] => { results := [.lit (.bool true)], args := [d1, d2, d3, d4] }
  | _ => none }
def logTurnedRow : OpenClaim := { program := "ytdpoahjgdndnhaadoor", sum := "016bb1c467460bf8d6ddfbebb7928761f4e0711cc4ddad9668f1385616e008c5", func := "twinkeep/twinkeeplaw10.LogTurned", spec := "logTurned", inPlace := ["internal/bytealg.IndexByteString", "internal/bytealg.IndexString"], named := ["internal/bytealg.MaxLen", "twinkeep/policy.names"], apart := false, laid := [("twinkeep/policy.names", laid_twinkeep_policy_names)] }
def LogTurnedSaid : Prop := logTurnedRow.holds Tryd.pinned (OpenSpec.ofChange logTurnedSpec)

/-- ITS FALSE NEIGHBOUR: 'it returns false'. Refute it at one input. -/
def logTurnedWrong : ChangeSpec := { name := "logTurned", fn := fun _ => fun
  | [d1, d2, d3, d4] => { results := [.lit (.bool false)], args := [d1, d2, d3, d4] }
  | _ => none }
def LogTurnedWrongFalsely : Prop := logTurnedRow.holds Tryd.pinned (OpenSpec.ofChange logTurnedWrong)

/-- 'twinkeeplaw10.LogMeets': WHATEVER THE INPUT: true; the input reads as it did. -/
def logMeetsSpec : ChangeSpec := { name := "logMeets", fn := fun _ => fun
  | [d1, d2, d3] => { results := [.lit (.bool true)], args := [d1, d2, d3] }
  | _ => none }
def logMeetsRow : OpenClaim := { program := "ytdpoahjgdndnhaadoor", sum := "016bb1c467460bf8d6ddfbebb7928761f4e0711cc4ddad9668f1385616e008c5", func := "twinkeep/twinkeeplaw10.LogMeets", spec := "logMeets", inPlace := ["internal/bytealg.IndexByteString", "internal/bytealg.IndexString"], named := ["internal/bytealg.MaxLen", "twinkeep/policy.names"], apart := false, laid := [("twinkeep/policy.names", laid_twinkeep_policy_names)] }
def LogMeetsSaid : Prop := logMeetsRow.holds Tryd.pinned (OpenSpec.ofChange logMeetsSpec)

/-- ITS FALSE NEIGHBOUR: 'it returns false'. Refute it at one input. -/
def logMeetsWrong : ChangeSpec := { name := "logMeets", fn := fun _ => fun
  | [d1, d2, d3] => { results := [.lit (.bool false)], args := [d1, d2, d3] }
  | _ => none }
def LogMeetsWrongFalsely : Prop := logMeetsRow.holds Tryd.pinned (OpenSpec.ofChange logMeetsWrong)

/-- 'twinkeeplaw10.LogMore': WHATEVER THE INPUT: true; the input reads as it did. -/
def logMoreSpec : ChangeSpec := { name := "logMore", fn := fun _ => fun
  | [d1, d2, d3] => { results := [.lit (.bool true)], args := [d1, d2, d3] }
  | _ => none }
def logMoreRow : OpenClaim := { program := "ytdpoahjgdndnhaadoor", sum := "016bb1c467460bf8d6ddfbebb7928761f4e0711cc4ddad9668f1385616e008c5", func := "twinkeep/twinkeeplaw10.LogMore", spec := "logMore", inPlace := ["internal/bytealg.IndexByteString", "internal/bytealg.IndexString"], named := ["internal/bytealg.MaxLen", "twinkeep/policy.names"], apart := false, laid := [("twinkeep/policy.names", laid_twinkeep_policy_names)] }
def LogMoreSaid : Prop := logMoreRow.holds Tryd.pinned (OpenSpec.ofChange logMoreSpec)

/-- ITS FALSE NEIGHBOUR: 'it returns false'. Refute it at one input. -/
def logMoreWrong : ChangeSpec := { name := "logMore", fn := fun _ => fun
  | [d1, d2, d3] => { results := [.lit (.bool false)], args := [d1, d2, d3] }
  | _ => none }
def LogMoreWrongFalsely : Prop := logMoreRow.holds Tryd.pinned (OpenSpec.ofChange logMoreWrong)

/- THE SECOND FORM. 'bulk': how many values and letters a reading holds, each counted each time it is reached (what is shared counts as often as it is met; a slice's spare places count too). A statement '..UptoSaid' is the law's where the arguments, and the package variables that the reading takes, are together of bulk at most 1048576: NARROWER than '..Said'. Prove '..Said' where nothing that the law and all that it calls make is longer than what came in: it says more and counts as full. Else prove '..UptoSaid'. A law counts once. -/
mutual
def uptoBulk {H : Type} : DataW H → Nat
  | .lit (.string bytes) => bytes.length + 1
  | .lit _ => 1
  | .nil => 1
  | .ptr d => uptoBulk d + 1
  | .slice elems spare => uptoBulkAll elems + uptoBulkAll spare + 1
  | .agg parts => uptoBulkAll parts + 1
  | .iface _ d => uptoBulk d + 1
  | .map entries => uptoBulkEntries entries + 1
  | .held _ => 1
def uptoBulkAll {H : Type} : List (DataW H) → Nat
  | [] => 0
  | d :: r => uptoBulk d + uptoBulkAll r
def uptoBulkEntries {H : Type} : List (Lit × DataW H) → Nat
  | [] => 0
  | x :: r => uptoBulkEntry x + uptoBulkEntries r
def uptoBulkEntry {H : Type} : Lit × DataW H → Nat
  | (.string bytes, d) => bytes.length + uptoBulk d + 1
  | (_, d) => uptoBulk d + 1
 end
def uptoSmall : (H : Type) → List (DataW H) → Bool := fun _ ds => decide (uptoBulkAll ds ≤ 1048576)
def OpenSpec.upto (s : _root_.Go.ChangeSpec) : _root_.Go.OpenSpec := { _root_.Go.OpenSpec.ofChange s with cond := some uptoSmall }

/-- 'twinkeeplaw9.EntryAsks', WHERE WHAT IT READS IS OF BULK AT MOST 1048576: true; the input reads as it did. -/
def entryAsksUptoRow : OpenClaim := { program := "ytdpoahjgdndnhaadoor", sum := "016bb1c467460bf8d6ddfbebb7928761f4e0711cc4ddad9668f1385616e008c5", func := "twinkeep/twinkeeplaw9.EntryAsks", spec := "entryAsks", inPlace := ["internal/bytealg.IndexByteString", "internal/bytealg.IndexString"], unfollowed := true, recurses := true, named := ["internal/bytealg.MaxLen", "twinkeep/policy.names"], apart := false, laid := [("twinkeep/policy.names", laid_twinkeep_policy_names)], narrowed := true }
def EntryAsksUptoSaid : Prop := entryAsksUptoRow.holds Tryd.pinned (OpenSpec.upto entryAsksSpec)

/-- 'twinkeeplaw9.EntryFolds', WHERE WHAT IT READS IS OF BULK AT MOST 1048576: true; the input reads as it did. -/
def entryFoldsUptoRow : OpenClaim := { program := "ytdpoahjgdndnhaadoor", sum := "016bb1c467460bf8d6ddfbebb7928761f4e0711cc4ddad9668f1385616e008c5", func := "twinkeep/twinkeeplaw9.EntryFolds", spec := "entryFolds", inPlace := ["internal/bytealg.IndexByteString", "internal/bytealg.IndexString"], unfollowed := true, recurses := true, named := ["internal/bytealg.MaxLen", "twinkeep/policy.names"], apart := false, laid := [("twinkeep/policy.names", laid_twinkeep_policy_names)], narrowed := true }
def EntryFoldsUptoSaid : Prop := entryFoldsUptoRow.holds Tryd.pinned (OpenSpec.upto entryFoldsSpec)

/-- 'twinkeeplaw9.EntryTwice', WHERE WHAT IT READS IS OF BULK AT MOST 1048576: true; the input reads as it did. -/
def entryTwiceUptoRow : OpenClaim := { program := "ytdpoahjgdndnhaadoor", sum := "016bb1c467460bf8d6ddfbebb7928761f4e0711cc4ddad9668f1385616e008c5", func := "twinkeep/twinkeeplaw9.EntryTwice", spec := "entryTwice", inPlace := ["internal/bytealg.IndexByteString", "internal/bytealg.IndexString"], unfollowed := true, recurses := true, named := ["internal/bytealg.MaxLen", "twinkeep/policy.names"], apart := false, laid := [("twinkeep/policy.names", laid_twinkeep_policy_names)], narrowed := true }
def EntryTwiceUptoSaid : Prop := entryTwiceUptoRow.holds Tryd.pinned (OpenSpec.upto entryTwiceSpec)

/-- 'twinkeeplaw10.LogMany', WHERE WHAT IT READS IS OF BULK AT MOST 1048576: true; the input reads as it did. -/
def logManyUptoRow : OpenClaim := { program := "ytdpoahjgdndnhaadoor", sum := "016bb1c467460bf8d6ddfbebb7928761f4e0711cc4ddad9668f1385616e008c5", func := "twinkeep/twinkeeplaw10.LogMany", spec := "logMany", inPlace := ["internal/bytealg.IndexByteString", "internal/bytealg.IndexString"], named := ["internal/bytealg.MaxLen", "twinkeep/policy.names"], apart := false, laid := [("twinkeep/policy.names", laid_twinkeep_policy_names)], narrowed := true }
def LogManyUptoSaid : Prop := logManyUptoRow.holds Tryd.pinned (OpenSpec.upto logManySpec)

/-- 'twinkeeplaw10.LogAsks', WHERE WHAT IT READS IS OF BULK AT MOST 1048576: true; the input reads as it did. -/
def logAsksUptoRow : OpenClaim := { program := "ytdpoahjgdndnhaadoor", sum := "016bb1c467460bf8d6ddfbebb7928761f4e0711cc4ddad9668f1385616e008c5", func := "twinkeep/twinkeeplaw10.LogAsks", spec := "logAsks", inPlace := ["internal/bytealg.IndexByteString", "internal/bytealg.IndexString"], named := ["internal/bytealg.MaxLen", "twinkeep/policy.names"], apart := false, laid := [("twinkeep/policy.names", laid_twinkeep_policy_names)], narrowed := true }
def LogAsksUptoSaid : Prop := logAsksUptoRow.holds Tryd.pinned (OpenSpec.upto logAsksSpec)

/-- 'twinkeeplaw10.LogTorn', WHERE WHAT IT READS IS OF BULK AT MOST 1048576: true; the input reads as it did. -/
def logTornUptoRow : OpenClaim := { program := "ytdpoahjgdndnhaadoor", sum := "016bb1c467460bf8d6ddfbebb7928761f4e0711cc4ddad9668f1385616e008c5", func := "twinkeep/twinkeeplaw10.LogTorn", spec := "logTorn", inPlace := ["internal/bytealg.IndexByteString", "internal/bytealg.IndexString"], named := ["internal/bytealg.MaxLen", "twinkeep/policy.names"], apart := false, laid := [("twinkeep/policy.names", laid_twinkeep_policy_names)], narrowed := true }
def LogTornUptoSaid : Prop := logTornUptoRow.holds Tryd.pinned (OpenSpec.upto logTornSpec)

/-- 'twinkeeplaw10.LogTurned', WHERE WHAT IT READS IS OF BULK AT MOST 1048576: true; the input reads as it did. -/
def logTurnedUptoRow : OpenClaim := { program := "ytdpoahjgdndnhaadoor", sum := "016bb1c467460bf8d6ddfbebb7928761f4e0711cc4ddad9668f1385616e008c5", func := "twinkeep/twinkeeplaw10.LogTurned", spec := "logTurned", inPlace := ["internal/bytealg.IndexByteString", "internal/bytealg.IndexString"], named := ["internal/bytealg.MaxLen", "twinkeep/policy.names"], apart := false, laid := [("twinkeep/policy.names", laid_twinkeep_policy_names)], narrowed := true }
def LogTurnedUptoSaid : Prop := logTurnedUptoRow.holds Tryd.pinned (OpenSpec.upto logTurnedSpec)

/-- 'twinkeeplaw10.LogMeets', WHERE WHAT IT READS IS OF BULK AT MOST 1048576: true; the input reads as it did. -/
def logMeetsUptoRow : OpenClaim := { program := "ytdpoahjgdndnhaadoor", sum := "016bb1c467460bf8d6ddfbebb7928761f4e0711cc4ddad9668f1385616e008c5", func := "twinkeep/twinkeeplaw10.LogMeets", spec := "logMeets", inPlace := ["internal/bytealg.IndexByteString", "internal/bytealg.IndexString"], named := ["internal/bytealg.MaxLen", "twinkeep/policy.names"], apart := false, laid := [("twinkeep/policy.names", laid_twinkeep_policy_names)], narrowed := true }
def LogMeetsUptoSaid : Prop := logMeetsUptoRow.holds Tryd.pinned (OpenSpec.upto logMeetsSpec)

/-- 'twinkeeplaw10.LogMore', WHERE WHAT IT READS IS OF BULK AT MOST 1048576: true; the input reads as it did. -/
def logMoreUptoRow : OpenClaim := { program := "ytdpoahjgdndnhaadoor", sum := "016bb1c467460bf8d6ddfbebb7928761f4e0711cc4ddad9668f1385616e008c5", func := "twinkeep/twinkeeplaw10.LogMore", spec := "logMore", inPlace := ["internal/bytealg.IndexByteString", "internal/bytealg.IndexString"], named := ["internal/bytealg.MaxLen", "twinkeep/policy.names"], apart := false, laid := [("twinkeep/policy.names", laid_twinkeep_policy_names)], narrowed := true }
def LogMoreUptoSaid : Prop := logMoreUptoRow.holds Tryd.pinned (OpenSpec.upto logMoreSpec)

end Rows
end Go.Proofs.YtdpoahjgdndnhaaDoor
