/-
  The functions that call none: mayBegin, mayCount, Add, One, mayHold, isAlike: what each returns at every argument; nothing that was there is written.
-/
import Derived.Test.YtfojciolhokejaaDoorProg
import Derived.Test.YtfojciolhokejaaDoorMath
import Derived.WalkKit
import Derived.Lib.Hide
import Derived.Deep.AppendLies
import Derived.Deep.LoopGhost
import Derived.Deep.QuietTactic
import Derived.BigQuiet
import Derived.Deep.DeepCutAuto
import Derived.Laws.ResultCell
import Derived.Laws.Cover1
import Derived.Lib.MinMax
namespace Go.Proofs.YtfojciolhokejaaDoor
open Go.RowKit

def Ag.val (a : Ag) : Value := .agg #[.int .i64 a.fr, .int .i64 a.cn, .int .i64 a.sm, .int .i64 a.mn, .int .i64 a.mx, .int .i64 a.fi, .int .i64 a.la]
theorem ret_bool {a b : Bool} (h : a = b) : Ending.returned (.bool a) = .returned (.bool b) := by rw [h]

theorem begin_any (f : Int) (w : World) (hf : In64 f) : Calls Tryd.prog 57 #[.int .i64 f] w fun e w' => e = .returned (.bool (decide (Ag.begin_ f))) ∧ w = w' := by
  obtain ⟨B, hB⟩ : ∃ B, B = decide (Ag.begin_ f) := ⟨_, rfl⟩
  rw [← hB]
  unfold Ag.begin_ at hB
  obtain ⟨l, u⟩ := hf
  have HB := Lib.hid hB
  clear hB
  by_cases h1 : 0 ≤ f
  · by_cases h2 : f ≤ 1099511627776
    · go_enter Tryd.func57, Tryd.ntmps57
      go_wp2
      go_ret
      exact ⟨ret_bool (by rw [HB.out]; simp [*]), rfl⟩
    · go_enter Tryd.func57, Tryd.ntmps57
      go_wp2
      go_ret
      exact ⟨ret_bool (by rw [HB.out]; simp [*]), rfl⟩
  · go_enter Tryd.func57, Tryd.ntmps57
    go_wp2
    go_ret
    exact ⟨ret_bool (by rw [HB.out]; exact (decide_eq_false (by omega)).symm), rfl⟩

theorem count_any (f : Int) (w : World) (hf : In64 f) : Calls Tryd.prog 58 #[.int .i64 f] w fun e w' => e = .returned (.bool (decide (Ag.count f))) ∧ w = w' := by
  obtain ⟨B, hB⟩ : ∃ B, B = decide (Ag.count f) := ⟨_, rfl⟩
  rw [← hB]
  unfold Ag.count at hB
  obtain ⟨l, u⟩ := hf
  have HB := Lib.hid hB
  clear hB
  by_cases h1 : 1 ≤ f
  · by_cases h2 : f ≤ 1099511627776
    · go_enter Tryd.func58, Tryd.ntmps58
      go_wp2
      go_ret
      exact ⟨ret_bool (by rw [HB.out]; simp [*]), rfl⟩
    · go_enter Tryd.func58, Tryd.ntmps58
      go_wp2
      go_ret
      exact ⟨ret_bool (by rw [HB.out]; simp [*]), rfl⟩
  · go_enter Tryd.func58, Tryd.ntmps58
    go_wp2
    go_ret
    exact ⟨ret_bool (by rw [HB.out]; exact (decide_eq_false (by omega)).symm), rfl⟩

set_option linter.unusedVariables false
theorem one_any (t v f : Int) (w : World) (hv : In64 v) (hf : In64 f) :
    Calls Tryd.prog 52 #[.agg #[.int .i64 t, .int .i64 v], .int .i64 f] w fun e w' => e = .returned (Ag.one v f).val ∧ Below w.heap.size w w' := by
  unfold In64 at *
  unfold Ag.one Ag.val
  go_enter Tryd.func52, Tryd.ntmps52
  go_wp2
  (try simp only [Exit.inBlock, Exit.then])
  refine bodyPost_ret (v := .agg #[.int .i64 f, .int .i64 1, .int .i64 v, .int .i64 v, .int .i64 v, .int .i64 v, .int .i64 v]) ?_ rfl ⟨rfl, ?_⟩
  · simp [results, Tryd.results52, go_sem]
  · exact ((Below.refl _ _).alloc (Nat.le_refl _) _).alloc (by simp) _
theorem min2 (ts : Array TypeId) (t : TypeId) (x y : Int) (W : World) : (Builtin.min_ ts t #[.int .i64 x, .int .i64 y]).run Tryd.prog W = .ok (.int .i64 (min x y)) W := Lib.run_min_ints W ts t .i64 .i64 x y
theorem max2 (ts : Array TypeId) (t : TypeId) (x y : Int) (W : World) : (Builtin.max_ ts t #[.int .i64 x, .int .i64 y]).run Tryd.prog W = .ok (.int .i64 (max x y)) W := Lib.run_max_ints W ts t .i64 .i64 x y
theorem min3 (ts : Array TypeId) (t : TypeId) (x y z : Int) (W : World) : (Builtin.min_ ts t #[.int .i64 x, .int .i64 y, .int .i64 z]).run Tryd.prog W = .ok (.int .i64 (min (min x y) z)) W := by
  rw [run_min_int3]
  congr 2
  rw [Int.min_def, Int.min_def]
  split <;> split <;> split <;> (try split) <;> omega

theorem hold_any (a : Ag) (w : World) (ha : a.ok) : Calls Tryd.prog 59 #[a.val] w fun e w' => e = .returned (.bool (decide a.hold)) ∧ Below w.heap.size w w' := by
  obtain ⟨fr, cn, sm, mn, mx, fi, la⟩ := a
  obtain ⟨B, hB⟩ : ∃ B, B = decide (Ag.hold ⟨fr, cn, sm, mn, mx, fi, la⟩) := ⟨_, rfl⟩
  rw [← hB]
  unfold Ag.hold at hB
  simp only at hB
  unfold Ag.val
  have HB := Lib.hid hB
  clear hB ha
  have hm := fun ts t => min3 ts t fi la mx
  have hx := fun ts t => max2 ts t fi la
  obtain ⟨M, hM⟩ : ∃ M, M = min (min fi la) mx := ⟨_, rfl⟩
  obtain ⟨X, hX⟩ : ∃ X, X = max fi la := ⟨_, rfl⟩
  simp only [← hM, ← hX] at hm hx
  have HM := Lib.hid hM
  have HX := Lib.hid hX
  clear hM hX
  by_cases h1 : mn ≤ M
  · by_cases h2 : X ≤ mx
    · go_enter Tryd.func59, Tryd.ntmps59
      go_wp2
      go_ret
      have e1 := HM.out
      have e2 := HX.out
      exact ⟨ret_bool (by rw [HB.out]; exact (decide_eq_true (by omega)).symm), (Below.refl _ _).alloc (Nat.le_refl _) _⟩
    · go_enter Tryd.func59, Tryd.ntmps59
      go_wp2
      go_ret
      have e1 := HM.out
      have e2 := HX.out
      exact ⟨ret_bool (by rw [HB.out]; exact (decide_eq_false (by omega)).symm), (Below.refl _ _).alloc (Nat.le_refl _) _⟩
  · go_enter Tryd.func59, Tryd.ntmps59
    go_wp2
    go_ret
    have e1 := HM.out
    have e2 := HX.out
    exact ⟨ret_bool (by rw [HB.out]; exact (decide_eq_false (by omega)).symm), (Below.refl _ _).alloc (Nat.le_refl _) _⟩

theorem alike_any (a : Ag) (w : World) (ha : a.ok) : Calls Tryd.prog 60 #[a.val] w fun e w' => e = .returned (.bool (decide a.alike)) ∧ Below w.heap.size w w' := by
  obtain ⟨fr, cn, sm, mn, mx, fi, la⟩ := a
  obtain ⟨B, hB⟩ : ∃ B, B = decide (Ag.alike ⟨fr, cn, sm, mn, mx, fi, la⟩) := ⟨_, rfl⟩
  rw [← hB]
  unfold Ag.alike at hB
  simp only at hB
  unfold Ag.val
  have HB := Lib.hid hB
  clear hB ha
  obtain ⟨b1, h1⟩ : ∃ b1, (sm == mn) = b1 := ⟨_, rfl⟩
  obtain ⟨b2, h2⟩ : ∃ b2, (mn == mx) = b2 := ⟨_, rfl⟩
  obtain ⟨b3, h3⟩ : ∃ b3, (mx == fi) = b3 := ⟨_, rfl⟩
  obtain ⟨b4, h4⟩ : ∃ b4, (fi == la) = b4 := ⟨_, rfl⟩
  have HE : Hid (B = (b1 && b2 && b3 && b4)) := Lib.hid (by
    rw [HB.out, ← h1, ← h2, ← h3, ← h4, Bool.eq_iff_iff]
    simp only [Bool.and_eq_true, beq_iff_eq, and_assoc]
    exact decide_eq_true_iff)
  clear HB
  cases b1
  · go_enter Tryd.func60, Tryd.ntmps60
    go_wp2
    go_ret
    exact ⟨ret_bool HE.out.symm, (Below.refl _ _).alloc (Nat.le_refl _) _⟩
  cases b2
  · go_enter Tryd.func60, Tryd.ntmps60
    go_wp2
    go_ret
    exact ⟨ret_bool HE.out.symm, (Below.refl _ _).alloc (Nat.le_refl _) _⟩
  cases b3
  · go_enter Tryd.func60, Tryd.ntmps60
    go_wp2
    go_ret
    exact ⟨ret_bool HE.out.symm, (Below.refl _ _).alloc (Nat.le_refl _) _⟩
  cases b4
  · go_enter Tryd.func60, Tryd.ntmps60
    go_wp2
    go_ret
    exact ⟨ret_bool HE.out.symm, (Below.refl _ _).alloc (Nat.le_refl _) _⟩
  go_enter Tryd.func60, Tryd.ntmps60
  go_wp2
  go_ret
  exact ⟨ret_bool HE.out.symm, (Below.refl _ _).alloc (Nat.le_refl _) _⟩
end Go.Proofs.YtfojciolhokejaaDoor
