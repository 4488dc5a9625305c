/-
  Width, mayTime, Floor, isCoarse: what each returns at every argument, where the widths lie as the program lays them; nothing is written.
-/
import Derived.Test.YtinplchaimejbaaTMath
import Derived.Test.YtinplchaimejbaaLeaf
namespace Go.Proofs.Ytinplchaimejbaa
open Go.RowKit

theorem mayT_any (f : Int) (w : World) (hf : In64 f) : Calls Try.prog 28 #[.int .i64 f] w fun e w' => e = .returned (.bool (decide (Ag.begin_ f))) ∧ w = w' := by
  obtain ⟨B, hB⟩ : ∃ B, B = decide (Ag.begin_ f) := ⟨_, rfl⟩
  rw [← hB]
  unfold Ag.begin_ at hB
  obtain ⟨l, u⟩ := hf
  have HB := Lib.hid hB
  clear hB
  by_cases h1 : 0 ≤ f
  · by_cases h2 : f ≤ 1099511627776
    · go_enter Try.func28, Try.ntmps28
      go_wp2
      go_ret
      exact ⟨ret_bool (by rw [HB.out]; simp [*]), rfl⟩
    · go_enter Try.func28, Try.ntmps28
      go_wp2
      go_ret
      exact ⟨ret_bool (by rw [HB.out]; simp [*]), rfl⟩
  · go_enter Try.func28, Try.ntmps28
    go_wp2
    go_ret
    exact ⟨ret_bool (by rw [HB.out]; exact (decide_eq_false (by omega)).symm), rfl⟩

end Go.Proofs.Ytinplchaimejbaa
