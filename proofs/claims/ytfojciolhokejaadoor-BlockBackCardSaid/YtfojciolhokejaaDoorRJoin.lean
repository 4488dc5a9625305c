/-
  The document's own answer for Join: what it returns at every two aggregates; nothing that was there is written.
-/
import Derived.Test.YtfojciolhokejaaDoorRLeaf
import Derived.Test.YtfojciolhokejaaDoorJoin
namespace Go.Proofs.YtfojciolhokejaaDoor
open Go.RowKit
set_option linter.unusedVariables false

set_option maxRecDepth 100000 in
set_option maxHeartbeats 1000000 in
theorem rjoin_yes (a b : Ag) (w : World) (ha : a.ok) (hb : b.ok) (ma : a.may) (mb : b.may) (hc : a.cn + b.cn ≤ 1099511627776) (hs : In64 (a.sm + b.sm)) :
    Calls Tryd.prog 54 #[a.val, b.val] w fun e w' => e = .returned (.tuple #[(a.both b).val, .int .i64 0]) ∧ Below w.heap.size w w' := by
  have m1 := fun w => rmay_any a w ha
  have m2 := fun w => rmay_any b w hb
  rw [decide_eq_true ma] at m1
  rw [decide_eq_true mb] at m2
  have hcw : IntKind.i64.wrap (a.cn + b.cn) = a.cn + b.cn := by
    rw [IntKind.wrap_i64]
    unfold Ag.may Ag.count at ma mb
    omega
  have m4 := fun w => radd_in a.sm b.sm w ha.2.2.1 hb.2.2.1 hs
  have M1 := Lib.hid m1
  have M2 := Lib.hid m2
  have M4 := Lib.hid m4
  have J := Lib.hid (joinW_facts w a b)
  clear m1 m2 m4 ha hb ma mb hs
  unfold Ag.both Ag.val at *
  go_enter Tryd.func54, Tryd.ntmps54
  go_wp2_with fail
  refine (M1.out _).mono ?_
  rintro e w2 ⟨rfl, hb2⟩
  change Below (joinW w a b).heap.size (joinW w a b) w2 at hb2
  obtain ⟨c0, c1, c2, c3, c4, c5, c6⟩ := J.out.2.1.below hb2
  go_wp2_with fail
  refine (M2.out _).mono ?_
  rintro e w3 ⟨rfl, hb3⟩
  clear c0 c1 c2 c3 c4 c5 c6
  have hB : Below (joinW w a b).heap.size (joinW w a b) w3 := hb2.trans (hb3.mono hb2.size)
  clear hb2 hb3
  have HB := Lib.hid hB
  obtain ⟨c0, c1, c2, c3, c4, c5, c6⟩ := J.out.1.below hB
  obtain ⟨d0, d1, d2, d3, d4, d5, d6⟩ := J.out.2.1.below hB
  clear hB
  go_wp2_with fail
  refine (M4.out _).mono ?_
  rintro e w4 ⟨rfl, rfl⟩
  obtain ⟨z0, z1, z2, z3, z4, z5, z6⟩ := J.out.2.2.1.below HB.out
  obtain ⟨f0, f1, f2, f3, f4, f5, f6⟩ := J.out.2.2.2.1.below J.out.2.2.2.2.1 HB.out
  go_wp2
  (try simp only [Exit.inBlock, Exit.then])
  refine bodyPost_ret (v := .tuple #[.agg #[.int .i64 a.fr, .int .i64 (a.cn + b.cn), .int .i64 (a.sm + b.sm), .int .i64 (min a.mn b.mn), .int .i64 (max a.mx b.mx), .int .i64 a.fi, .int .i64 b.la], .int .i64 0]) ?_ rfl ⟨rfl, ?_⟩
  · rw [results_cell_tmp rfl]
    go_simp
  · have h := J.out.2.2.2.2.2
    have hw3 : Below w.heap.size w w3 := h.trans (HB.out.mono h.size)
    exact ((((((hw3.setCell (by simp; omega) _).setCell (by simp; omega) _).setCell (by simp; omega) _).setCell (by simp; omega) _).setCell (by simp; omega) _).setCell (by simp; omega) _).setCell (by simp; omega) _
set_option maxRecDepth 100000 in
set_option maxHeartbeats 1000000 in
theorem rjoin_over (a b : Ag) (w : World) (ha : a.ok) (hb : b.ok) (ma : a.may) (mb : b.may) (hc : a.cn + b.cn ≤ 1099511627776) (hs : ¬ In64 (a.sm + b.sm)) :
    Calls Tryd.prog 54 #[a.val, b.val] w fun e w' => e = .returned (.tuple #[Ag.zero.val, .int .i64 3]) ∧ Below w.heap.size w w' := by
  have m1 := fun w => rmay_any a w ha
  have m2 := fun w => rmay_any b w hb
  rw [decide_eq_true ma] at m1
  rw [decide_eq_true mb] at m2
  have hcw : IntKind.i64.wrap (a.cn + b.cn) = a.cn + b.cn := by
    rw [IntKind.wrap_i64]
    unfold Ag.may Ag.count at ma mb
    omega
  have m4 := fun w => radd_out a.sm b.sm w ha.2.2.1 hb.2.2.1 hs
  have M1 := Lib.hid m1
  have M2 := Lib.hid m2
  have M4 := Lib.hid m4
  have J := Lib.hid (joinW_facts w a b)
  clear m1 m2 m4 ha hb ma mb hs
  unfold Ag.zero Ag.val at *
  go_enter Tryd.func54, Tryd.ntmps54
  go_wp2_with fail
  refine (M1.out _).mono ?_
  rintro e w2 ⟨rfl, hb2⟩
  change Below (joinW w a b).heap.size (joinW w a b) w2 at hb2
  obtain ⟨c0, c1, c2, c3, c4, c5, c6⟩ := J.out.2.1.below hb2
  go_wp2_with fail
  refine (M2.out _).mono ?_
  rintro e w3 ⟨rfl, hb3⟩
  clear c0 c1 c2 c3 c4 c5 c6
  have hB : Below (joinW w a b).heap.size (joinW w a b) w3 := hb2.trans (hb3.mono hb2.size)
  clear hb2 hb3
  have HB := Lib.hid hB
  obtain ⟨c0, c1, c2, c3, c4, c5, c6⟩ := J.out.1.below hB
  obtain ⟨d0, d1, d2, d3, d4, d5, d6⟩ := J.out.2.1.below hB
  clear hB
  go_wp2_with fail
  refine (M4.out _).mono ?_
  rintro e w4 ⟨rfl, rfl⟩
  obtain ⟨z0, z1, z2, z3, z4, z5, z6⟩ := J.out.2.2.1.below HB.out
  obtain ⟨f0, f1, f2, f3, f4, f5, f6⟩ := J.out.2.2.2.1.below J.out.2.2.2.2.1 HB.out
  go_wp2
  (try simp only [Exit.inBlock, Exit.then])
  refine bodyPost_ret (v := .tuple #[.agg #[.int .i64 0, .int .i64 0, .int .i64 0, .int .i64 0, .int .i64 0, .int .i64 0, .int .i64 0], .int .i64 3]) ?_ rfl ⟨rfl, ?_⟩
  · rw [results_cell_tmp rfl]
    go_simp
  · have h := J.out.2.2.2.2.2
    have hw3 : Below w.heap.size w w3 := h.trans (HB.out.mono h.size)
    exact ((((((hw3.setCell (by simp; omega) _).setCell (by simp; omega) _).setCell (by simp; omega) _).setCell (by simp; omega) _).setCell (by simp; omega) _).setCell (by simp; omega) _).setCell (by simp; omega) _
set_option maxRecDepth 100000 in
set_option maxHeartbeats 1000000 in
theorem rjoin_many (a b : Ag) (w : World) (ha : a.ok) (hb : b.ok) (ma : a.may) (mb : b.may) (hc : ¬ a.cn + b.cn ≤ 1099511627776) :
    Calls Tryd.prog 54 #[a.val, b.val] w fun e w' => e = .returned (.tuple #[Ag.zero.val, .int .i64 1]) ∧ Below w.heap.size w w' := by
  have m1 := fun w => rmay_any a w ha
  have m2 := fun w => rmay_any b w hb
  rw [decide_eq_true ma] at m1
  rw [decide_eq_true mb] at m2
  have hc2 : In64 (a.cn + b.cn) := by
    unfold Ag.may Ag.count at ma mb
    unfold In64
    omega
  have hcw : IntKind.i64.wrap (a.cn + b.cn) = a.cn + b.cn := by
    rw [IntKind.wrap_i64]
    unfold In64 at hc2
    omega
  have M1 := Lib.hid m1
  have M2 := Lib.hid m2
  have J := Lib.hid (joinW_facts w a b)
  clear m1 m2 ha hb ma mb hc2
  unfold Ag.zero Ag.val at *
  go_enter Tryd.func54, Tryd.ntmps54
  go_wp2_with fail
  refine (M1.out _).mono ?_
  rintro e w2 ⟨rfl, hb2⟩
  change Below (joinW w a b).heap.size (joinW w a b) w2 at hb2
  obtain ⟨c0, c1, c2, c3, c4, c5, c6⟩ := J.out.2.1.below hb2
  go_wp2_with fail
  refine (M2.out _).mono ?_
  rintro e w3 ⟨rfl, hb3⟩
  clear c0 c1 c2 c3 c4 c5 c6
  have hB : Below (joinW w a b).heap.size (joinW w a b) w3 := hb2.trans (hb3.mono hb2.size)
  clear hb2 hb3
  have HB := Lib.hid hB
  obtain ⟨c0, c1, c2, c3, c4, c5, c6⟩ := J.out.1.below hB
  obtain ⟨d0, d1, d2, d3, d4, d5, d6⟩ := J.out.2.1.below hB
  clear hB
  obtain ⟨z0, z1, z2, z3, z4, z5, z6⟩ := J.out.2.2.1.below HB.out
  obtain ⟨f0, f1, f2, f3, f4, f5, f6⟩ := J.out.2.2.2.1.below J.out.2.2.2.2.1 HB.out
  go_wp2
  (try simp only [Exit.inBlock, Exit.then])
  refine bodyPost_ret (v := .tuple #[.agg #[.int .i64 0, .int .i64 0, .int .i64 0, .int .i64 0, .int .i64 0, .int .i64 0, .int .i64 0], .int .i64 1]) ?_ rfl ⟨rfl, ?_⟩
  · rw [results_cell_tmp rfl]
    go_simp
  · have h := J.out.2.2.2.2.2
    have hw3 : Below w.heap.size w w3 := h.trans (HB.out.mono h.size)
    exact ((((((hw3.setCell (by simp; omega) _).setCell (by simp; omega) _).setCell (by simp; omega) _).setCell (by simp; omega) _).setCell (by simp; omega) _).setCell (by simp; omega) _).setCell (by simp; omega) _

set_option maxRecDepth 100000 in
set_option maxHeartbeats 1000000 in
theorem rjoin_second (a b : Ag) (w : World) (ha : a.ok) (hb : b.ok) (ma : a.may) (mb : ¬ b.may) :
    Calls Tryd.prog 54 #[a.val, b.val] w fun e w' => e = .returned (.tuple #[Ag.zero.val, .int .i64 1]) ∧ Below w.heap.size w w' := by
  have m1 := fun w => rmay_any a w ha
  have m2 := fun w => rmay_any b w hb
  rw [decide_eq_true ma] at m1
  rw [decide_eq_false mb] at m2
  have M1 := Lib.hid m1
  have M2 := Lib.hid m2
  have J := Lib.hid (joinW_facts w a b)
  clear m1 m2 ha hb ma mb
  unfold Ag.zero Ag.val at *
  go_enter Tryd.func54, Tryd.ntmps54
  go_wp2_with fail
  refine (M1.out _).mono ?_
  rintro e w2 ⟨rfl, hb2⟩
  change Below (joinW w a b).heap.size (joinW w a b) w2 at hb2
  obtain ⟨c0, c1, c2, c3, c4, c5, c6⟩ := J.out.2.1.below hb2
  go_wp2_with fail
  refine (M2.out _).mono ?_
  rintro e w3 ⟨rfl, hb3⟩
  clear c0 c1 c2 c3 c4 c5 c6
  have hB : Below (joinW w a b).heap.size (joinW w a b) w3 := hb2.trans (hb3.mono hb2.size)
  clear hb2 hb3
  have HB := Lib.hid hB
  clear hB
  obtain ⟨z0, z1, z2, z3, z4, z5, z6⟩ := J.out.2.2.1.below HB.out
  obtain ⟨f0, f1, f2, f3, f4, f5, f6⟩ := J.out.2.2.2.1.below J.out.2.2.2.2.1 HB.out
  go_wp2
  (try simp only [Exit.inBlock, Exit.then])
  refine bodyPost_ret (v := .tuple #[.agg #[.int .i64 0, .int .i64 0, .int .i64 0, .int .i64 0, .int .i64 0, .int .i64 0, .int .i64 0], .int .i64 1]) ?_ rfl ⟨rfl, ?_⟩
  · rw [results_cell_tmp rfl]
    go_simp
  · have h := J.out.2.2.2.2.2
    have hw3 : Below w.heap.size w w3 := h.trans (HB.out.mono h.size)
    exact ((((((hw3.setCell (by simp; omega) _).setCell (by simp; omega) _).setCell (by simp; omega) _).setCell (by simp; omega) _).setCell (by simp; omega) _).setCell (by simp; omega) _).setCell (by simp; omega) _

set_option maxRecDepth 100000 in
set_option maxHeartbeats 1000000 in
theorem rjoin_first (a b : Ag) (w : World) (ha : a.ok) (ma : ¬ a.may) :
    Calls Tryd.prog 54 #[a.val, b.val] w fun e w' => e = .returned (.tuple #[Ag.zero.val, .int .i64 1]) ∧ Below w.heap.size w w' := by
  have m1 := fun w => rmay_any a w ha
  rw [decide_eq_false ma] at m1
  have M1 := Lib.hid m1
  have J := Lib.hid (joinW_facts w a b)
  clear m1 ha ma
  unfold Ag.zero Ag.val at *
  go_enter Tryd.func54, Tryd.ntmps54
  go_wp2_with fail
  refine (M1.out _).mono ?_
  rintro e w2 ⟨rfl, hb2⟩
  change Below (joinW w a b).heap.size (joinW w a b) w2 at hb2
  have HB := Lib.hid hb2
  clear hb2
  obtain ⟨z0, z1, z2, z3, z4, z5, z6⟩ := J.out.2.2.1.below HB.out
  obtain ⟨f0, f1, f2, f3, f4, f5, f6⟩ := J.out.2.2.2.1.below J.out.2.2.2.2.1 HB.out
  go_wp2
  (try simp only [Exit.inBlock, Exit.then])
  refine bodyPost_ret (v := .tuple #[.agg #[.int .i64 0, .int .i64 0, .int .i64 0, .int .i64 0, .int .i64 0, .int .i64 0, .int .i64 0], .int .i64 1]) ?_ rfl ⟨rfl, ?_⟩
  · rw [results_cell_tmp rfl]
    go_simp
  · have h := J.out.2.2.2.2.2
    have hw3 : Below w.heap.size w w2 := h.trans (HB.out.mono h.size)
    exact ((((((hw3.setCell (by simp; omega) _).setCell (by simp; omega) _).setCell (by simp; omega) _).setCell (by simp; omega) _).setCell (by simp; omega) _).setCell (by simp; omega) _).setCell (by simp; omega) _

/-- Join at every two aggregates. -/
theorem rjoin_any (a b : Ag) (w : World) (ha : a.ok) (hb : b.ok) :
    Calls Tryd.prog 54 #[a.val, b.val] w fun e w' => e = .returned (.tuple #[(join a b).1.val, .int .i64 (join a b).2]) ∧ Below w.heap.size w w' := by
  by_cases ma : a.may
  case neg =>
    have e : join a b = (Ag.zero, 1) := by unfold join; rw [if_neg (fun h => ma h.1)]
    rw [e]
    exact rjoin_first a b w ha ma
  by_cases mb : b.may
  case neg =>
    have e : join a b = (Ag.zero, 1) := by unfold join; rw [if_neg (fun h => mb h.2.1)]
    rw [e]
    exact rjoin_second a b w ha hb ma mb
  by_cases hc : a.cn + b.cn ≤ 1099511627776
  case neg =>
    have e : join a b = (Ag.zero, 1) := by unfold join; rw [if_neg (fun h => hc h.2.2)]
    rw [e]
    exact rjoin_many a b w ha hb ma mb hc
  by_cases hs : In64 (a.sm + b.sm)
  case neg =>
    have e : join a b = (Ag.zero, 3) := by unfold join; rw [if_pos ⟨ma, mb, hc⟩, if_neg hs]
    rw [e]
    exact rjoin_over a b w ha hb ma mb hc hs
  have e : join a b = (a.both b, 0) := by unfold join; rw [if_pos ⟨ma, mb, hc⟩, if_pos hs]
  rw [e]
  exact rjoin_yes a b w ha hb ma mb hc hs
end Go.Proofs.YtfojciolhokejaaDoor
