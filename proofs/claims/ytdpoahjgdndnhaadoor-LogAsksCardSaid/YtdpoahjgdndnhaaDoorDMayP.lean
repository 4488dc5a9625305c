/-
  The document's own MayPolicy, Default: what each returns; nothing that was there is written.
-/
import Derived.Test.YtdpoahjgdndnhaaDoorDWords
set_option maxRecDepth 100000
namespace Go.Proofs.YtdpoahjgdndnhaaDoor
open Go.RowKit
attribute [local go_sem ↓] Go.wp_at_zero Go.wp_at_succ
set_option linter.unusedVariables false

set_option maxHeartbeats 8000000 in
theorem maypol_any (p : Pol) (w : World) : Calls Tryd.prog 74 #[p.val] w fun e w' => e = .returned (.bool (decide p.may)) ∧ Below w.heap.size w w' := by
  obtain ⟨a0, a1, a2, a3, cn, sp⟩ := p
  obtain ⟨B, hB⟩ : ∃ B, B = decide (Pol.may ⟨a0, a1, a2, a3, cn, sp⟩) := ⟨_, rfl⟩
  rw [← hB]
  have HB := Lib.hid hB
  clear hB
  have HW : Hid (∀ o, Below w.heap.size w (w.alloc o)) := Lib.hid (fun o => (Below.refl _ _).alloc (Nat.le_refl _) _)
  unfold Pol.val
  simp only
  go_enter Tryd.func74, Tryd.ntmps74
  go_wp2
  refine wp_loop_rounds 5 ?_
  rw [rounds_succ]
  go_wp2
  all_goals (try (rw [rounds_succ]; go_wp2))
  all_goals (try (rw [rounds_succ]; go_wp2))
  all_goals (try (rw [rounds_succ]; go_wp2))
  all_goals (try (rw [rounds_succ]; go_wp2))
  all_goals
    (try rw [Exit.noGoto_ret])
    go_ret
    refine ⟨ret_bool ?_, HW.out _⟩
    clear HW
    (try simp only [bne_iff_ne, ne_eq, beq_iff_eq, beq_eq_false_iff_ne, bne_eq_false_iff_eq] at *)
    rw [HB.out]
    clear HB
    first
      | exact (decide_eq_false (by unfold Pol.may Pol.ages ageOk nextOk; simp only; omega)).symm
      | exact (decide_eq_true (by unfold Pol.may Pol.ages ageOk nextOk; simp only; omega)).symm
      | exact decide_eq_decide.2 (by unfold Pol.may Pol.ages ageOk nextOk; simp only; omega)
theorem refdefault_any (w : World) : Calls Tryd.prog 50 #[] w fun e w' => e = .returned Pol.dflt.val ∧ Below w.heap.size w w' := by
  unfold Pol.val Pol.dflt
  go_enter Tryd.func50, Tryd.ntmps50
  go_wp2
  (try simp only [Exit.inBlock, Exit.then])
  refine bodyPost_ret (v := .agg #[.int .i64 60, .int .i64 600, .int .i64 6000, .int .i64 0, .int .i64 8, .int .i64 30]) ?_ rfl ⟨rfl, ?_⟩
  · simp [results, Tryd.results50, go_sem]
  · exact ((Below.refl _ _).alloc (Nat.le_refl _) _)
end Go.Proofs.YtdpoahjgdndnhaaDoor
