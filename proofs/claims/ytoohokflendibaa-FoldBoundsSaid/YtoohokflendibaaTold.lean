/-
  told: it returns true, and writes nothing that was there.
-/
import Derived.Test.YtoohokflendibaaAllMore
namespace Go.Proofs.Ytoohokflendibaa
open Go.RowKit

theorem all_153 : all 0 [1, 5, 3] = (⟨0, 3, 9, 1, 5, 1, 3⟩, 0) := by rfl
theorem all_over : all 0 [9223372036854775807, 1] = (Ag.zero, 3) := by rfl
def Ag.a153 : Ag := ⟨0, 3, 9, 1, 5, 1, 3⟩
theorem ok153 : Ag.a153.ok := by unfold Ag.ok Ag.a153 In64; simp
theorem may153 : Ag.a153.may := by decide
theorem mayZero : ¬ Ag.zero.may := by decide
theorem join153 : join Ag.zero Ag.a153 = (Ag.zero, 1) := by rfl

theorem told_all1 (g : Nat) (w : World) (h : w.cell? ⟨g, 0, none⟩ = some (.int .i64 1) ∧ w.cell? ⟨g, 1, none⟩ = some (.int .i64 1) ∧ w.cell? ⟨g, 2, none⟩ = some (.int .i64 2) ∧ w.cell? ⟨g, 3, none⟩ = some (.int .i64 5) ∧ w.cell? ⟨g, 4, none⟩ = some (.int .i64 3) ∧ w.cell? ⟨g, 5, none⟩ = some (.int .i64 3)) :
    Calls Try.prog 9 #[.slice (some ⟨g, 0, none⟩) 3 3, .int .i64 0] w fun e w' => e = .returned (.tuple #[.agg #[.int .i64 0, .int .i64 3, .int .i64 9, .int .i64 1, .int .i64 5, .int .i64 1, .int .i64 3], .int .i64 0]) ∧ Below w.heap.size w w' := by
  obtain ⟨h0, h1, h2, h3, h4, h5⟩ := h
  have hS : Samps w (some ⟨g, 0, none⟩) [(1, 1), (2, 5), (3, 3)] := by
    refine ⟨by simp [In64], fun _ => ⟨g, 0, rfl, fun j hj => ?_⟩⟩
    match j, hj with
    | 0, _ => exact ⟨h0, h1⟩
    | 1, _ => exact ⟨h2, h3⟩
    | 2, _ => exact ⟨h4, h5⟩
  have h := all_any 0 (len := 3) (cap := 3) rfl (by decide) hS (by decide) (by decide) (by decide)
  simp only [List.map_cons, List.map_nil] at h
  rw [all_153] at h
  exact h
theorem told_all2 (g : Nat) (w : World) (h : w.cell? ⟨g, 0, none⟩ = some (.int .i64 0) ∧ w.cell? ⟨g, 1, none⟩ = some (.int .i64 9223372036854775807) ∧ w.cell? ⟨g, 2, none⟩ = some (.int .i64 0) ∧ w.cell? ⟨g, 3, none⟩ = some (.int .i64 1)) :
    Calls Try.prog 9 #[.slice (some ⟨g, 0, none⟩) 2 2, .int .i64 0] w fun e w' => e = .returned (.tuple #[.agg #[.int .i64 0, .int .i64 0, .int .i64 0, .int .i64 0, .int .i64 0, .int .i64 0, .int .i64 0], .int .i64 3]) ∧ Below w.heap.size w w' := by
  obtain ⟨h0, h1, h2, h3⟩ := h
  have hS : Samps w (some ⟨g, 0, none⟩) [(0, 9223372036854775807), (0, 1)] := by
    refine ⟨by simp [In64], fun _ => ⟨g, 0, rfl, fun j hj => ?_⟩⟩
    match j, hj with
    | 0, _ => exact ⟨h0, h1⟩
    | 1, _ => exact ⟨h2, h3⟩
  have h := all_any 0 (len := 2) (cap := 2) rfl (by decide) hS (by decide) (by decide) (by decide)
  simp only [List.map_cons, List.map_nil] at h
  rw [all_over] at h
  exact h
theorem told_join (w : World) : Calls Try.prog 10 #[.agg #[.int .i64 0, .int .i64 0, .int .i64 0, .int .i64 0, .int .i64 0, .int .i64 0, .int .i64 0], .agg #[.int .i64 0, .int .i64 3, .int .i64 9, .int .i64 1, .int .i64 5, .int .i64 1, .int .i64 3]] w
    fun e w' => e = .returned (.tuple #[.agg #[.int .i64 0, .int .i64 0, .int .i64 0, .int .i64 0, .int .i64 0, .int .i64 0, .int .i64 0], .int .i64 1]) ∧ Below w.heap.size w w' := by
  have h := join_any Ag.zero Ag.a153 w zero_ok ok153
  rw [join153] at h
  exact h
theorem told_may1 (w : World) : Calls Try.prog 11 #[.agg #[.int .i64 0, .int .i64 3, .int .i64 9, .int .i64 1, .int .i64 5, .int .i64 1, .int .i64 3]] w fun e w' => e = .returned (.bool true) ∧ Below w.heap.size w w' := by
  have h := may_any Ag.a153 w ok153
  rw [decide_eq_true may153] at h
  exact h
theorem told_may2 (w : World) : Calls Try.prog 11 #[.agg #[.int .i64 0, .int .i64 0, .int .i64 0, .int .i64 0, .int .i64 0, .int .i64 0, .int .i64 0]] w fun e w' => e = .returned (.bool false) ∧ Below w.heap.size w w' := by
  have h := may_any Ag.zero w zero_ok
  rw [decide_eq_false mayZero] at h
  exact h
theorem told_none (w : World) : Calls Try.prog 9 #[.slice none 0 0, .int .i64 0] w fun e w' => e = .returned (.tuple #[.agg #[.int .i64 0, .int .i64 0, .int .i64 0, .int .i64 0, .int .i64 0, .int .i64 0, .int .i64 0], .int .i64 1]) ∧ Below w.heap.size w w' := all_none 0 w
theorem told_add (w : World) : Calls Try.prog 12 #[.int .i64 9223372036854775807, .int .i64 1] w fun e w' => e = .returned (.tuple #[.int .i64 0, .bool false]) ∧ w = w' :=
  add_out _ _ w (by unfold In64; simp) (by unfold In64; simp) (by unfold In64; simp)

theorem past {w w2 w3 : World} (h : Below w.heap.size w w2) (h3 : Below w2.heap.size w2 w3) : Below w.heap.size w w3 := h.trans (h3.mono h.size)
theorem past_alloc {w w2 : World} (h : Below w.heap.size w w2) (o : Obj) : Below w.heap.size w (w2.alloc o) := h.alloc h.size o

set_option maxRecDepth 100000 in
set_option maxHeartbeats 2000000 in
theorem told_any (w : World) : Calls Try.prog 8 #[] w fun e w' => e = .returned (.bool true) ∧ Below w.heap.size w w' := by
  go_enter Try.func8, Try.ntmps8
  go_wp2_with fail
  refine (told_all1 _ _ (by simp)).mono ?_
  rintro e w2 ⟨rfl, hb2⟩
  have hB2 : Below w.heap.size w w2 := past ((Below.refl _ _).alloc (Nat.le_refl _) _) hb2
  have HB2 := Lib.hid hB2
  have hA : Holds (w2.alloc (.cells #[.int .i64 0, .int .i64 3, .int .i64 9, .int .i64 1, .int .i64 5, .int .i64 1, .int .i64 3] 26)) w2.heap.size Ag.a153 := by
    unfold Holds Ag.a153
    simp
  have HA := Lib.hid hA
  clear hb2 hB2 hA
  go_wp2_with fail
  refine (told_none _).mono ?_
  rintro e w3 ⟨rfl, hb3⟩
  have HA3 := Lib.hid (HA.out.below hb3)
  have HB3 : Hid (Below w.heap.size w w3) := Lib.hid (past (past_alloc HB2.out _) hb3)
  clear hb3 HB2 HA
  generalize w2.heap.size = g at *
  go_wp2_with fail
  refine (told_all2 _ _ (by simp)).mono ?_
  rintro e w4 ⟨rfl, hb4⟩
  have HA4 : Hid (Holds w4 g Ag.a153) := Lib.hid (by
    refine Holds.below (w := w3) HA3.out ?_
    exact past (past_alloc (past_alloc (Below.refl _ _) _) _) hb4)
  have HB4 : Hid (Below w.heap.size w w4) := Lib.hid (past (past_alloc (past_alloc HB3.out _) _) hb4)
  clear hb4 HA3 HB3
  go_wp2_with fail
  refine (told_add _).mono ?_
  rintro e w5 ⟨rfl, rfl⟩
  have HA5 : Hid (Holds (w4.alloc (.cells #[.int .i64 0, .int .i64 0, .int .i64 0, .int .i64 0, .int .i64 0, .int .i64 0, .int .i64 0] 26)) g Ag.a153) := Lib.hid (HA4.out.below (past_alloc (Below.refl _ _) _))
  have HB5 : Hid (Below w.heap.size w (w4.alloc (.cells #[.int .i64 0, .int .i64 0, .int .i64 0, .int .i64 0, .int .i64 0, .int .i64 0, .int .i64 0] 26))) := Lib.hid (past_alloc HB4.out _)
  clear HA4 HB4
  generalize (w4.alloc (.cells #[.int .i64 0, .int .i64 0, .int .i64 0, .int .i64 0, .int .i64 0, .int .i64 0, .int .i64 0] 26)) = w5 at *
  obtain ⟨a0, a1, a2, a3, a4, a5, a6⟩ := HA5.out
  simp only [Ag.a153] at a0 a1 a2 a3 a4 a5 a6
  go_wp2_with fail
  refine (told_join _).mono ?_
  rintro e w6 ⟨rfl, hb6⟩
  clear a0 a1 a2 a3 a4 a5 a6
  have HA6 := Lib.hid (HA5.out.below hb6)
  have HB6 : Hid (Below w.heap.size w w6) := Lib.hid (past HB5.out hb6)
  clear hb6 HA5 HB5
  obtain ⟨a0, a1, a2, a3, a4, a5, a6⟩ := HA6.out
  simp only [Ag.a153] at a0 a1 a2 a3 a4 a5 a6
  have hg : g < w6.heap.size := World.block_lt_of_cell? w6 _ a0
  go_wp2_with fail
  refine (told_may1 _).mono ?_
  rintro e w7 ⟨rfl, hb7⟩
  have HB7 : Hid (Below w.heap.size w w7) := Lib.hid (past (past_alloc HB6.out _) hb7)
  clear hb7 HA6 HB6 a0 a1 a2 a3 a4 a5 a6
  go_wp2_with fail
  refine (told_may2 _).mono ?_
  rintro e w8 ⟨rfl, hb8⟩
  go_wp2
  go_ret
  exact ⟨rfl, past HB7.out hb8⟩
end Go.Proofs.Ytoohokflendibaa
