/-
  mayAges, May: what each returns at every policy; nothing that was there is written.
-/
import Derived.Test.YtdpoahjgdndnhaaDoorPLeaf
namespace Go.Proofs.YtdpoahjgdndnhaaDoor
open Go.RowKit
set_option linter.unusedVariables false

set_option maxRecDepth 100000 in
set_option maxHeartbeats 4000000 in
theorem mayAges_any (p : Pol) (w : World) (hp : p.ok) :
    Calls Tryd.prog 98 #[.agg #[.int .i64 p.a0, .int .i64 p.a1, .int .i64 p.a2, .int .i64 p.a3]] w fun e w' => e = .returned (.bool (decide p.ages)) ∧ Below w.heap.size w w' := by
  obtain ⟨a0, a1, a2, a3, cn, sp⟩ := p
  obtain ⟨B, hB⟩ : ∃ B, B = decide (Pol.ages ⟨a0, a1, a2, a3, cn, sp⟩) := ⟨_, rfl⟩
  rw [← hB]
  have HB := Lib.hid hB
  clear hB hp
  have i0 : ∀ (a0 a1 a2 a3 : Int) w, (Instr.index 37 (.agg #[.int .i64 a0, .int .i64 a1, .int .i64 a2, .int .i64 a3]) (.int .i64 0)).run Tryd.prog w = .ok (.int .i64 a0) w := fun _ _ _ _ _ => by kernel_rfl
  have i1 : ∀ (a0 a1 a2 a3 : Int) w, (Instr.index 37 (.agg #[.int .i64 a0, .int .i64 a1, .int .i64 a2, .int .i64 a3]) (.int .i64 1)).run Tryd.prog w = .ok (.int .i64 a1) w := fun _ _ _ _ _ => by kernel_rfl
  have i2 : ∀ (a0 a1 a2 a3 : Int) w, (Instr.index 37 (.agg #[.int .i64 a0, .int .i64 a1, .int .i64 a2, .int .i64 a3]) (.int .i64 2)).run Tryd.prog w = .ok (.int .i64 a2) w := fun _ _ _ _ _ => by kernel_rfl
  have i3 : ∀ (a0 a1 a2 a3 : Int) w, (Instr.index 37 (.agg #[.int .i64 a0, .int .i64 a1, .int .i64 a2, .int .i64 a3]) (.int .i64 3)).run Tryd.prog w = .ok (.int .i64 a3) w := fun _ _ _ _ _ => by kernel_rfl
  have HW : Hid (∀ o, Below w.heap.size w (w.alloc o)) := Lib.hid (fun o => (Below.refl _ _).alloc (Nat.le_refl _) _)
  go_enter Tryd.func98, Tryd.ntmps98
  go_wp2
  refine wp_loop_rounds 5 ?_
  rw [rounds_succ]
  go_wp2
  all_goals (try (rw [rounds_succ]; go_wp2))
  all_goals (try (rw [rounds_succ]; go_wp2))
  all_goals (try (rw [rounds_succ]; go_wp2))
  all_goals (try (rw [rounds_succ]; go_wp2))
  all_goals
    (try rw [Exit.noGoto_ret])
    go_ret
    refine ⟨ret_bool ?_, HW.out _⟩
    clear HW i0 i1 i2 i3
    (try simp only [bne_iff_ne, ne_eq, beq_iff_eq, beq_eq_false_iff_ne, bne_eq_false_iff_eq] at *)
    rw [HB.out]
    clear HB
    first
      | exact (decide_eq_false (by unfold Pol.ages ageOk nextOk; simp only; omega)).symm
      | exact (decide_eq_true (by unfold Pol.ages ageOk nextOk; simp only; omega)).symm
      | (by_cases h3 : a3 = 0
         · exact ((beq_iff_eq).2 h3).trans (decide_eq_true (by unfold Pol.ages ageOk nextOk; simp only; omega)).symm
         · exact ((beq_eq_false_iff_ne).2 h3).trans (decide_eq_false (by unfold Pol.ages ageOk nextOk; simp only; omega)).symm)

set_option maxRecDepth 100000 in
set_option maxHeartbeats 4000000 in
theorem may_any (p : Pol) (w : World) (hp : p.ok) : Calls Tryd.prog 85 #[p.val] w fun e w' => e = .returned (.bool (decide p.may)) ∧ Below w.heap.size w w' := by
  have m1 := fun w => mayAges_any p w hp
  obtain ⟨b, hb⟩ : ∃ b, b = decide p.ages := ⟨_, rfl⟩
  obtain ⟨B, hB⟩ : ∃ B, B = decide p.may := ⟨_, rfl⟩
  rw [← hB]
  simp only [← hb] at m1
  obtain ⟨a0, a1, a2, a3, cn, sp⟩ := p
  unfold Pol.val
  simp only at *
  have HB : Hid (B = (b && (decide (1 ≤ cn ∧ cn ≤ 64 ∧ 1 ≤ sp ∧ sp ≤ 200)))) := Lib.hid (by
    rw [hB, hb, Bool.eq_iff_iff, Bool.and_eq_true, decide_eq_true_eq, decide_eq_true_eq, decide_eq_true_eq]
    unfold Pol.may
    simp only [and_assoc])
  have M1 := Lib.hid m1
  clear m1 hB hb hp
  cases b
  case false =>
    go_enter Tryd.func85, Tryd.ntmps85
    go_wp2_with fail
    refine (M1.out _).mono ?_
    rintro e w2 ⟨rfl, hb2⟩
    have HB2 : Hid (Below w.heap.size w w2) := Lib.hid (past ((Below.refl _ _).alloc (Nat.le_refl _) _) hb2)
    clear hb2
    go_wp2
    go_ret
    exact ⟨ret_bool (by rw [HB.out]; rfl), HB2.out⟩
  go_enter Tryd.func85, Tryd.ntmps85
  go_wp2_with fail
  refine (M1.out _).mono ?_
  rintro e w2 ⟨rfl, hb2⟩
  have HB2 : Hid (Below w.heap.size w w2) := Lib.hid (past ((Below.refl _ _).alloc (Nat.le_refl _) _) hb2)
  have hc4 : w2.cell? ⟨w.heap.size, 4, none⟩ = some (.int .i64 cn) := by rw [hb2.cell (by simp)]; simp
  have hc5 : w2.cell? ⟨w.heap.size, 5, none⟩ = some (.int .i64 sp) := by rw [hb2.cell (by simp)]; simp
  clear hb2
  go_wp2
  all_goals
    go_ret
    refine ⟨ret_bool ?_, HB2.out⟩
    rw [HB.out]
    clear HB M1 HB2
    rw [Bool.true_and]
    first
      | exact (decide_eq_false (by omega)).symm
      | exact decide_eq_decide.2 (by omega)
end Go.Proofs.YtdpoahjgdndnhaaDoor
