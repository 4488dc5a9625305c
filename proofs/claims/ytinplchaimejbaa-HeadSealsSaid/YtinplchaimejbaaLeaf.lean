/-
  The functions that call none: mayBegin, mayCount, Add, One, mayHold, isAlike: what each returns at every argument; nothing that was there is written.
-/
import Derived.Test.YtinplchaimejbaaProg
import Derived.Test.YtinplchaimejbaaMath
import Derived.WalkKit
import Derived.Lib.Hide
import Derived.Deep.AppendLies
import Derived.Deep.LoopGhost
import Derived.Deep.QuietTactic
import Derived.BigQuiet
import Derived.Deep.DeepCutAuto
import Derived.Laws.ResultCell
import Derived.Laws.Cover1
import Derived.Lib.MinMax
namespace Go.Proofs.Ytinplchaimejbaa
open Go.RowKit

def Ag.val (a : Ag) : Value := .agg #[.int .i64 a.fr, .int .i64 a.cn, .int .i64 a.sm, .int .i64 a.mn, .int .i64 a.mx, .int .i64 a.fi, .int .i64 a.la]
theorem ret_bool {a b : Bool} (h : a = b) : Ending.returned (.bool a) = .returned (.bool b) := by rw [h]

set_option linter.unusedVariables false
theorem min2 (ts : Array TypeId) (t : TypeId) (x y : Int) (W : World) : (Builtin.min_ ts t #[.int .i64 x, .int .i64 y]).run Try.prog W = .ok (.int .i64 (min x y)) W := Lib.run_min_ints W ts t .i64 .i64 x y
theorem max2 (ts : Array TypeId) (t : TypeId) (x y : Int) (W : World) : (Builtin.max_ ts t #[.int .i64 x, .int .i64 y]).run Try.prog W = .ok (.int .i64 (max x y)) W := Lib.run_max_ints W ts t .i64 .i64 x y
theorem min3 (ts : Array TypeId) (t : TypeId) (x y z : Int) (W : World) : (Builtin.min_ ts t #[.int .i64 x, .int .i64 y, .int .i64 z]).run Try.prog W = .ok (.int .i64 (min (min x y) z)) W := by
  rw [run_min_int3]
  congr 2
  rw [Int.min_def, Int.min_def]
  split <;> split <;> split <;> (try split) <;> omega

end Go.Proofs.Ytinplchaimejbaa
