/-
  Policies: Default, mayAges, May: what each returns at every policy; nothing that was there is written.
-/
import Derived.Test.YtinplchaimejbaaFoldKit
namespace Go.Proofs.Ytinplchaimejbaa
open Go.RowKit
set_option linter.unusedVariables false

/-- A policy: four ages, the count, the span. -/
structure Pol where
  a0 : Int
  a1 : Int
  a2 : Int
  a3 : Int
  cn : Int
  sp : Int
deriving DecidableEq

def Pol.zero : Pol := ⟨0, 0, 0, 0, 0, 0⟩
def Pol.dflt : Pol := ⟨60, 600, 6000, 0, 8, 30⟩
def Pol.ok (p : Pol) : Prop := In64 p.a0 ∧ In64 p.a1 ∧ In64 p.a2 ∧ In64 p.a3 ∧ In64 p.cn ∧ In64 p.sp
instance polOkDec (p : Pol) : Decidable p.ok := by unfold Pol.ok; infer_instance
def Pol.at (p : Pol) : Nat → Int
  | 0 => p.a0
  | 1 => p.a1
  | 2 => p.a2
  | 3 => p.a3
  | 4 => p.cn
  | _ => p.sp
/-- What a line sets: an age, the count, the span. -/
def Pol.put (p : Pol) (k : Nat) (n : Int) : Pol :=
  match k with
  | 0 => { p with a0 := n }
  | 1 => { p with a1 := n }
  | 2 => { p with a2 := n }
  | 3 => { p with a3 := n }
  | 4 => { p with cn := min n 65 }
  | _ => { p with sp := n }

def ageOk (a : Int) : Prop := 0 ≤ a ∧ a ≤ 1099511627776
instance ageOkDec (a : Int) : Decidable (ageOk a) := by unfold ageOk; infer_instance
/-- An age behind the age b. -/
def nextOk (b a : Int) : Prop := a = 0 ∨ (b ≠ 0 ∧ b ≤ a)
instance nextOkDec (b a : Int) : Decidable (nextOk b a) := by unfold nextOk; infer_instance
def Pol.ages (p : Pol) : Prop := (ageOk p.a0 ∧ ageOk p.a1 ∧ ageOk p.a2 ∧ ageOk p.a3) ∧ (nextOk p.a0 p.a1 ∧ nextOk p.a1 p.a2 ∧ nextOk p.a2 p.a3) ∧ p.a3 = 0
instance polAgesDec (p : Pol) : Decidable p.ages := by unfold Pol.ages; infer_instance
def Pol.may (p : Pol) : Prop := p.ages ∧ (1 ≤ p.cn ∧ p.cn ≤ 64) ∧ 1 ≤ p.sp ∧ p.sp ≤ 200
instance polMayDec (p : Pol) : Decidable p.may := by unfold Pol.may; infer_instance


def Pol.val (p : Pol) : Value := .agg #[.int .i64 p.a0, .int .i64 p.a1, .int .i64 p.a2, .int .i64 p.a3, .int .i64 p.cn, .int .i64 p.sp]

set_option maxRecDepth 100000 in
theorem default_any (w : World) : Calls Try.prog 16 #[] w fun e w' => e = .returned Pol.dflt.val ∧ Below w.heap.size w w' := by
  unfold Pol.val Pol.dflt
  go_enter Try.func16, Try.ntmps16
  go_wp2
  (try simp only [Exit.inBlock, Exit.then])
  refine bodyPost_ret (v := .agg #[.int .i64 60, .int .i64 600, .int .i64 6000, .int .i64 0, .int .i64 8, .int .i64 30]) ?_ rfl ⟨rfl, ?_⟩
  · simp [results, Try.results16, go_sem]
  · exact ((Below.refl _ _).alloc (Nat.le_refl _) _)

set_option maxRecDepth 100000 in
set_option maxHeartbeats 4000000 in
theorem mayAges_any (p : Pol) (w : World) (hp : p.ok) :
    Calls Try.prog 30 #[.agg #[.int .i64 p.a0, .int .i64 p.a1, .int .i64 p.a2, .int .i64 p.a3]] w fun e w' => e = .returned (.bool (decide p.ages)) ∧ Below w.heap.size w w' := by
  obtain ⟨a0, a1, a2, a3, cn, sp⟩ := p
  obtain ⟨B, hB⟩ : ∃ B, B = decide (Pol.ages ⟨a0, a1, a2, a3, cn, sp⟩) := ⟨_, rfl⟩
  rw [← hB]
  have HB := Lib.hid hB
  clear hB hp
  have i0 : ∀ (a0 a1 a2 a3 : Int) w, (Instr.index 38 (.agg #[.int .i64 a0, .int .i64 a1, .int .i64 a2, .int .i64 a3]) (.int .i64 0)).run Try.prog w = .ok (.int .i64 a0) w := fun _ _ _ _ _ => by kernel_rfl
  have i1 : ∀ (a0 a1 a2 a3 : Int) w, (Instr.index 38 (.agg #[.int .i64 a0, .int .i64 a1, .int .i64 a2, .int .i64 a3]) (.int .i64 1)).run Try.prog w = .ok (.int .i64 a1) w := fun _ _ _ _ _ => by kernel_rfl
  have i2 : ∀ (a0 a1 a2 a3 : Int) w, (Instr.index 38 (.agg #[.int .i64 a0, .int .i64 a1, .int .i64 a2, .int .i64 a3]) (.int .i64 2)).run Try.prog w = .ok (.int .i64 a2) w := fun _ _ _ _ _ => by kernel_rfl
  have i3 : ∀ (a0 a1 a2 a3 : Int) w, (Instr.index 38 (.agg #[.int .i64 a0, .int .i64 a1, .int .i64 a2, .int .i64 a3]) (.int .i64 3)).run Try.prog w = .ok (.int .i64 a3) w := fun _ _ _ _ _ => by kernel_rfl
  have HW : Hid (∀ o, Below w.heap.size w (w.alloc o)) := Lib.hid (fun o => (Below.refl _ _).alloc (Nat.le_refl _) _)
  go_enter Try.func30, Try.ntmps30
  go_wp2
  refine wp_loop_rounds 5 ?_
  rw [rounds_succ]
  go_wp2
  all_goals (try (rw [rounds_succ]; go_wp2))
  all_goals (try (rw [rounds_succ]; go_wp2))
  all_goals (try (rw [rounds_succ]; go_wp2))
  all_goals (try (rw [rounds_succ]; go_wp2))
  all_goals
    (try rw [Exit.noGoto_ret])
    go_ret
    refine ⟨ret_bool ?_, HW.out _⟩
    clear HW i0 i1 i2 i3
    (try simp only [bne_iff_ne, ne_eq, beq_iff_eq, beq_eq_false_iff_ne, bne_eq_false_iff_eq] at *)
    rw [HB.out]
    clear HB
    first
      | exact (decide_eq_false (by unfold Pol.ages ageOk nextOk; simp only; omega)).symm
      | exact (decide_eq_true (by unfold Pol.ages ageOk nextOk; simp only; omega)).symm
      | (by_cases h3 : a3 = 0
         · exact ((beq_iff_eq).2 h3).trans (decide_eq_true (by unfold Pol.ages ageOk nextOk; simp only; omega)).symm
         · exact ((beq_eq_false_iff_ne).2 h3).trans (decide_eq_false (by unfold Pol.ages ageOk nextOk; simp only; omega)).symm)

set_option maxRecDepth 100000 in
set_option maxHeartbeats 4000000 in
theorem pmay_any (p : Pol) (w : World) (hp : p.ok) : Calls Try.prog 26 #[p.val] w fun e w' => e = .returned (.bool (decide p.may)) ∧ Below w.heap.size w w' := by
  have m1 := fun w => mayAges_any p w hp
  obtain ⟨b, hb⟩ : ∃ b, b = decide p.ages := ⟨_, rfl⟩
  obtain ⟨B, hB⟩ : ∃ B, B = decide p.may := ⟨_, rfl⟩
  rw [← hB]
  simp only [← hb] at m1
  obtain ⟨a0, a1, a2, a3, cn, sp⟩ := p
  unfold Pol.val
  simp only at *
  have HB : Hid (B = (b && (decide (1 ≤ cn ∧ cn ≤ 64 ∧ 1 ≤ sp ∧ sp ≤ 200)))) := Lib.hid (by
    rw [hB, hb, Bool.eq_iff_iff, Bool.and_eq_true, decide_eq_true_eq, decide_eq_true_eq, decide_eq_true_eq]
    unfold Pol.may
    simp only [and_assoc])
  have M1 := Lib.hid m1
  clear m1 hB hb hp
  cases b
  case false =>
    go_enter Try.func26, Try.ntmps26
    go_wp2_with fail
    refine (M1.out _).mono ?_
    rintro e w2 ⟨rfl, hb2⟩
    have HB2 : Hid (Below w.heap.size w w2) := Lib.hid (past ((Below.refl _ _).alloc (Nat.le_refl _) _) hb2)
    clear hb2
    go_wp2
    go_ret
    exact ⟨ret_bool (by rw [HB.out]; rfl), HB2.out⟩
  go_enter Try.func26, Try.ntmps26
  go_wp2_with fail
  refine (M1.out _).mono ?_
  rintro e w2 ⟨rfl, hb2⟩
  have HB2 : Hid (Below w.heap.size w w2) := Lib.hid (past ((Below.refl _ _).alloc (Nat.le_refl _) _) hb2)
  have hc4 : w2.cell? ⟨w.heap.size, 4, none⟩ = some (.int .i64 cn) := by rw [hb2.cell (by simp)]; simp
  have hc5 : w2.cell? ⟨w.heap.size, 5, none⟩ = some (.int .i64 sp) := by rw [hb2.cell (by simp)]; simp
  clear hb2
  go_wp2
  all_goals
    go_ret
    refine ⟨ret_bool ?_, HB2.out⟩
    rw [HB.out]
    clear HB M1 HB2
    rw [Bool.true_and]
    first
      | exact (decide_eq_false (by omega)).symm
      | exact decide_eq_decide.2 (by omega)
end Go.Proofs.Ytinplchaimejbaa
