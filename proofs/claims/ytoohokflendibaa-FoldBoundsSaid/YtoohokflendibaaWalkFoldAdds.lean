/-
  The walk of FoldAdds: it returns true, and writes nothing that was there.
-/
import Derived.Test.YtoohokflendibaaTold
namespace Go.Proofs.Ytoohokflendibaa
open Go.RowKit
theorem fits_i64 {a : Int} (h : (Lit.int .i64 a).wf = true) : In64 a := by
  unfold In64
  simpa [Lit.wf, IntKind.min, IntKind.max, IntKind.bits, IntKind.signed] using h
namespace foldAdds

set_option maxRecDepth 100000 in
set_option maxHeartbeats 1000000 in
theorem walk (a0 : Int) (a1 : Int) (w0 : (Lit.int .i64 a0).wf = true) (w1 : (Lit.int .i64 a1).wf = true) (w : World) :
    Calls Try.prog 5 #[.int .i64 a0, .int .i64 a1] w fun e w' => e = .returned (.bool true) ∧ Below w.heap.size w w' := by
  have f0 := fits_i64 w0
  have f1 := fits_i64 w1
  clear w0 w1
  by_cases hs : In64 (a0 + a1)
  · have m1 := fun w => add_in a0 a1 w f0 f1 hs
    have m2 := fun w => add_in a1 a0 w f1 f0 (by rw [Int.add_comm]; exact hs)
    rw [Int.add_comm a1 a0] at m2
    have e1 : IntKind.i64.wrap (a0 + a1 - a1) = a0 := by
      unfold In64 at *
      rw [IntKind.wrap_i64]
      omega
    have e2 : IntKind.i64.wrap (a0 + a1 - a0) = a1 := by
      unfold In64 at *
      rw [IntKind.wrap_i64]
      omega
    generalize a0 + a1 = S at *
    have M1 := Lib.hid m1
    have M2 := Lib.hid m2
    clear m1 m2
    unfold In64 at *
    go_enter Try.func5, Try.ntmps5
    go_wp2_with fail
    refine (M1.out _).mono ?_
    rintro e w2 ⟨rfl, rfl⟩
    go_wp2_with fail
    refine (M2.out _).mono ?_
    rintro e w2 ⟨rfl, rfl⟩
    go_wp2_with fail
    refine (told_any _).mono ?_
    rintro e wt ⟨rfl, hbt⟩
    go_wp2
    go_ret
    exact ⟨rfl, hbt⟩
  · have m1 := fun w => add_out a0 a1 w f0 f1 hs
    have m2 := fun w => add_out a1 a0 w f1 f0 (by rw [Int.add_comm]; exact hs)
    have M1 := Lib.hid m1
    have M2 := Lib.hid m2
    clear m1 m2
    unfold In64 at *
    by_cases hp : 0 < a0
    · have h1 : 0 < a1 := by omega
      have e1 : IntKind.i64.wrap (9223372036854775807 - a1) = 9223372036854775807 - a1 := by
        rw [IntKind.wrap_i64]
        omega
      obtain ⟨D, hD⟩ : ∃ D, 9223372036854775807 - a1 = D := ⟨_, rfl⟩
      rw [hD] at e1
      have e2 : D < a0 := by omega
      clear hs
      go_enter Try.func5, Try.ntmps5
      go_wp2_with fail
      refine (M1.out _).mono ?_
      rintro e w2 ⟨rfl, rfl⟩
      go_wp2_with fail
      refine (M2.out _).mono ?_
      rintro e w2 ⟨rfl, rfl⟩
      go_wp2_with fail
      refine (told_any _).mono ?_
      rintro e wt ⟨rfl, hbt⟩
      go_wp2
      go_ret
      exact ⟨rfl, hbt⟩
    · have h1 : ¬ 0 < a1 := by omega
      have h2 : a0 < 0 := by omega
      have e1 : IntKind.i64.wrap (-9223372036854775808 - a1) = -9223372036854775808 - a1 := by
        rw [IntKind.wrap_i64]
        omega
      obtain ⟨D, hD⟩ : ∃ D, -9223372036854775808 - a1 = D := ⟨_, rfl⟩
      rw [hD] at e1
      have e2 : a0 < D := by omega
      clear hs
      go_enter Try.func5, Try.ntmps5
      go_wp2_with fail
      refine (M1.out _).mono ?_
      rintro e w2 ⟨rfl, rfl⟩
      go_wp2_with fail
      refine (M2.out _).mono ?_
      rintro e w2 ⟨rfl, rfl⟩
      go_wp2_with fail
      refine (told_any _).mono ?_
      rintro e wt ⟨rfl, hbt⟩
      go_wp2
      go_ret
      exact ⟨rfl, hbt⟩
end foldAdds
end Go.Proofs.Ytoohokflendibaa
