/-
  The document's own answer for Join: what it returns at every two aggregates; nothing that was there is written.
  The document's own answer for All: what it returns of every row of samples that is not empty; nothing that was there is written.
  The document's own answer for Raw: what it returns of every row of at most a thousand samples; nothing that was there is written.
  The document's own answer for Raw at every row of at most a thousand samples, at every tier.
  The document's own answer for Down: what it returns of every row of at most a thousand windows; nothing that was there is written.
  The document's own answer for Down at every row of at most a thousand windows, at every tier; what codes there are, how many windows.
-/
import Derived.Test.YtepancmkopifpaaGreatDoorRRise
import Derived.Test.YtepancmkopifpaaGreatDoorFoldKit
import Derived.Test.YtepancmkopifpaaGreatDoorTDownAny
import Derived.Test.YtepancmkopifpaaGreatDoorGRoll
namespace Go.Proofs.YtepancmkopifpaaGreatDoor
open Go.RowKit
set_option linter.unusedVariables false

set_option maxRecDepth 100000 in
set_option maxHeartbeats 1000000 in
theorem rjoin_yes (a b : Ag) (w : World) (ha : a.ok) (hb : b.ok) (ma : a.may) (mb : b.may) (hc : a.cn + b.cn ≤ 1099511627776) (hs : In64 (a.sm + b.sm)) :
    Calls Tryz.prog 38 #[a.val, b.val] w fun e w' => e = .returned (.tuple #[(a.both b).val, .int .i64 0]) ∧ Below w.heap.size w w' := by
  have m1 := fun w => rmay_any a w ha
  have m2 := fun w => rmay_any b w hb
  rw [decide_eq_true ma] at m1
  rw [decide_eq_true mb] at m2
  have hcw : IntKind.i64.wrap (a.cn + b.cn) = a.cn + b.cn := by
    rw [IntKind.wrap_i64]
    unfold Ag.may Ag.count at ma mb
    omega
  have m4 := fun w => radd_in a.sm b.sm w ha.2.2.1 hb.2.2.1 hs
  have M1 := Lib.hid m1
  have M2 := Lib.hid m2
  have M4 := Lib.hid m4
  have J := Lib.hid (joinW_facts w a b)
  clear m1 m2 m4 ha hb ma mb hs
  unfold Ag.both Ag.val at *
  go_enter Tryz.func38, Tryz.ntmps38
  go_wp2_with fail
  refine (M1.out _).mono ?_
  rintro e w2 ⟨rfl, hb2⟩
  change Below (joinW w a b).heap.size (joinW w a b) w2 at hb2
  obtain ⟨c0, c1, c2, c3, c4, c5, c6⟩ := J.out.2.1.below hb2
  go_wp2_with fail
  refine (M2.out _).mono ?_
  rintro e w3 ⟨rfl, hb3⟩
  clear c0 c1 c2 c3 c4 c5 c6
  have hB : Below (joinW w a b).heap.size (joinW w a b) w3 := hb2.trans (hb3.mono hb2.size)
  clear hb2 hb3
  have HB := Lib.hid hB
  obtain ⟨c0, c1, c2, c3, c4, c5, c6⟩ := J.out.1.below hB
  obtain ⟨d0, d1, d2, d3, d4, d5, d6⟩ := J.out.2.1.below hB
  clear hB
  go_wp2_with fail
  refine (M4.out _).mono ?_
  rintro e w4 ⟨rfl, rfl⟩
  obtain ⟨z0, z1, z2, z3, z4, z5, z6⟩ := J.out.2.2.1.below HB.out
  obtain ⟨f0, f1, f2, f3, f4, f5, f6⟩ := J.out.2.2.2.1.below J.out.2.2.2.2.1 HB.out
  go_wp2
  (try simp only [Exit.inBlock, Exit.then])
  refine bodyPost_ret (v := .tuple #[.agg #[.int .i64 a.fr, .int .i64 (a.cn + b.cn), .int .i64 (a.sm + b.sm), .int .i64 (min a.mn b.mn), .int .i64 (max a.mx b.mx), .int .i64 a.fi, .int .i64 b.la], .int .i64 0]) ?_ rfl ⟨rfl, ?_⟩
  · rw [results_cell_tmp rfl]
    go_simp
  · have h := J.out.2.2.2.2.2
    have hw3 : Below w.heap.size w w3 := h.trans (HB.out.mono h.size)
    exact ((((((hw3.setCell (by simp; omega) _).setCell (by simp; omega) _).setCell (by simp; omega) _).setCell (by simp; omega) _).setCell (by simp; omega) _).setCell (by simp; omega) _).setCell (by simp; omega) _
set_option maxRecDepth 100000 in
set_option maxHeartbeats 1000000 in
theorem rjoin_over (a b : Ag) (w : World) (ha : a.ok) (hb : b.ok) (ma : a.may) (mb : b.may) (hc : a.cn + b.cn ≤ 1099511627776) (hs : ¬ In64 (a.sm + b.sm)) :
    Calls Tryz.prog 38 #[a.val, b.val] w fun e w' => e = .returned (.tuple #[Ag.zero.val, .int .i64 3]) ∧ Below w.heap.size w w' := by
  have m1 := fun w => rmay_any a w ha
  have m2 := fun w => rmay_any b w hb
  rw [decide_eq_true ma] at m1
  rw [decide_eq_true mb] at m2
  have hcw : IntKind.i64.wrap (a.cn + b.cn) = a.cn + b.cn := by
    rw [IntKind.wrap_i64]
    unfold Ag.may Ag.count at ma mb
    omega
  have m4 := fun w => radd_out a.sm b.sm w ha.2.2.1 hb.2.2.1 hs
  have M1 := Lib.hid m1
  have M2 := Lib.hid m2
  have M4 := Lib.hid m4
  have J := Lib.hid (joinW_facts w a b)
  clear m1 m2 m4 ha hb ma mb hs
  unfold Ag.zero Ag.val at *
  go_enter Tryz.func38, Tryz.ntmps38
  go_wp2_with fail
  refine (M1.out _).mono ?_
  rintro e w2 ⟨rfl, hb2⟩
  change Below (joinW w a b).heap.size (joinW w a b) w2 at hb2
  obtain ⟨c0, c1, c2, c3, c4, c5, c6⟩ := J.out.2.1.below hb2
  go_wp2_with fail
  refine (M2.out _).mono ?_
  rintro e w3 ⟨rfl, hb3⟩
  clear c0 c1 c2 c3 c4 c5 c6
  have hB : Below (joinW w a b).heap.size (joinW w a b) w3 := hb2.trans (hb3.mono hb2.size)
  clear hb2 hb3
  have HB := Lib.hid hB
  obtain ⟨c0, c1, c2, c3, c4, c5, c6⟩ := J.out.1.below hB
  obtain ⟨d0, d1, d2, d3, d4, d5, d6⟩ := J.out.2.1.below hB
  clear hB
  go_wp2_with fail
  refine (M4.out _).mono ?_
  rintro e w4 ⟨rfl, rfl⟩
  obtain ⟨z0, z1, z2, z3, z4, z5, z6⟩ := J.out.2.2.1.below HB.out
  obtain ⟨f0, f1, f2, f3, f4, f5, f6⟩ := J.out.2.2.2.1.below J.out.2.2.2.2.1 HB.out
  go_wp2
  (try simp only [Exit.inBlock, Exit.then])
  refine bodyPost_ret (v := .tuple #[.agg #[.int .i64 0, .int .i64 0, .int .i64 0, .int .i64 0, .int .i64 0, .int .i64 0, .int .i64 0], .int .i64 3]) ?_ rfl ⟨rfl, ?_⟩
  · rw [results_cell_tmp rfl]
    go_simp
  · have h := J.out.2.2.2.2.2
    have hw3 : Below w.heap.size w w3 := h.trans (HB.out.mono h.size)
    exact ((((((hw3.setCell (by simp; omega) _).setCell (by simp; omega) _).setCell (by simp; omega) _).setCell (by simp; omega) _).setCell (by simp; omega) _).setCell (by simp; omega) _).setCell (by simp; omega) _
set_option maxRecDepth 100000 in
set_option maxHeartbeats 1000000 in
theorem rjoin_many (a b : Ag) (w : World) (ha : a.ok) (hb : b.ok) (ma : a.may) (mb : b.may) (hc : ¬ a.cn + b.cn ≤ 1099511627776) :
    Calls Tryz.prog 38 #[a.val, b.val] w fun e w' => e = .returned (.tuple #[Ag.zero.val, .int .i64 1]) ∧ Below w.heap.size w w' := by
  have m1 := fun w => rmay_any a w ha
  have m2 := fun w => rmay_any b w hb
  rw [decide_eq_true ma] at m1
  rw [decide_eq_true mb] at m2
  have hc2 : In64 (a.cn + b.cn) := by
    unfold Ag.may Ag.count at ma mb
    unfold In64
    omega
  have hcw : IntKind.i64.wrap (a.cn + b.cn) = a.cn + b.cn := by
    rw [IntKind.wrap_i64]
    unfold In64 at hc2
    omega
  have M1 := Lib.hid m1
  have M2 := Lib.hid m2
  have J := Lib.hid (joinW_facts w a b)
  clear m1 m2 ha hb ma mb hc2
  unfold Ag.zero Ag.val at *
  go_enter Tryz.func38, Tryz.ntmps38
  go_wp2_with fail
  refine (M1.out _).mono ?_
  rintro e w2 ⟨rfl, hb2⟩
  change Below (joinW w a b).heap.size (joinW w a b) w2 at hb2
  obtain ⟨c0, c1, c2, c3, c4, c5, c6⟩ := J.out.2.1.below hb2
  go_wp2_with fail
  refine (M2.out _).mono ?_
  rintro e w3 ⟨rfl, hb3⟩
  clear c0 c1 c2 c3 c4 c5 c6
  have hB : Below (joinW w a b).heap.size (joinW w a b) w3 := hb2.trans (hb3.mono hb2.size)
  clear hb2 hb3
  have HB := Lib.hid hB
  obtain ⟨c0, c1, c2, c3, c4, c5, c6⟩ := J.out.1.below hB
  obtain ⟨d0, d1, d2, d3, d4, d5, d6⟩ := J.out.2.1.below hB
  clear hB
  obtain ⟨z0, z1, z2, z3, z4, z5, z6⟩ := J.out.2.2.1.below HB.out
  obtain ⟨f0, f1, f2, f3, f4, f5, f6⟩ := J.out.2.2.2.1.below J.out.2.2.2.2.1 HB.out
  go_wp2
  (try simp only [Exit.inBlock, Exit.then])
  refine bodyPost_ret (v := .tuple #[.agg #[.int .i64 0, .int .i64 0, .int .i64 0, .int .i64 0, .int .i64 0, .int .i64 0, .int .i64 0], .int .i64 1]) ?_ rfl ⟨rfl, ?_⟩
  · rw [results_cell_tmp rfl]
    go_simp
  · have h := J.out.2.2.2.2.2
    have hw3 : Below w.heap.size w w3 := h.trans (HB.out.mono h.size)
    exact ((((((hw3.setCell (by simp; omega) _).setCell (by simp; omega) _).setCell (by simp; omega) _).setCell (by simp; omega) _).setCell (by simp; omega) _).setCell (by simp; omega) _).setCell (by simp; omega) _

set_option maxRecDepth 100000 in
set_option maxHeartbeats 1000000 in
theorem rjoin_second (a b : Ag) (w : World) (ha : a.ok) (hb : b.ok) (ma : a.may) (mb : ¬ b.may) :
    Calls Tryz.prog 38 #[a.val, b.val] w fun e w' => e = .returned (.tuple #[Ag.zero.val, .int .i64 1]) ∧ Below w.heap.size w w' := by
  have m1 := fun w => rmay_any a w ha
  have m2 := fun w => rmay_any b w hb
  rw [decide_eq_true ma] at m1
  rw [decide_eq_false mb] at m2
  have M1 := Lib.hid m1
  have M2 := Lib.hid m2
  have J := Lib.hid (joinW_facts w a b)
  clear m1 m2 ha hb ma mb
  unfold Ag.zero Ag.val at *
  go_enter Tryz.func38, Tryz.ntmps38
  go_wp2_with fail
  refine (M1.out _).mono ?_
  rintro e w2 ⟨rfl, hb2⟩
  change Below (joinW w a b).heap.size (joinW w a b) w2 at hb2
  obtain ⟨c0, c1, c2, c3, c4, c5, c6⟩ := J.out.2.1.below hb2
  go_wp2_with fail
  refine (M2.out _).mono ?_
  rintro e w3 ⟨rfl, hb3⟩
  clear c0 c1 c2 c3 c4 c5 c6
  have hB : Below (joinW w a b).heap.size (joinW w a b) w3 := hb2.trans (hb3.mono hb2.size)
  clear hb2 hb3
  have HB := Lib.hid hB
  clear hB
  obtain ⟨z0, z1, z2, z3, z4, z5, z6⟩ := J.out.2.2.1.below HB.out
  obtain ⟨f0, f1, f2, f3, f4, f5, f6⟩ := J.out.2.2.2.1.below J.out.2.2.2.2.1 HB.out
  go_wp2
  (try simp only [Exit.inBlock, Exit.then])
  refine bodyPost_ret (v := .tuple #[.agg #[.int .i64 0, .int .i64 0, .int .i64 0, .int .i64 0, .int .i64 0, .int .i64 0, .int .i64 0], .int .i64 1]) ?_ rfl ⟨rfl, ?_⟩
  · rw [results_cell_tmp rfl]
    go_simp
  · have h := J.out.2.2.2.2.2
    have hw3 : Below w.heap.size w w3 := h.trans (HB.out.mono h.size)
    exact ((((((hw3.setCell (by simp; omega) _).setCell (by simp; omega) _).setCell (by simp; omega) _).setCell (by simp; omega) _).setCell (by simp; omega) _).setCell (by simp; omega) _).setCell (by simp; omega) _

set_option maxRecDepth 100000 in
set_option maxHeartbeats 1000000 in
theorem rjoin_first (a b : Ag) (w : World) (ha : a.ok) (ma : ¬ a.may) :
    Calls Tryz.prog 38 #[a.val, b.val] w fun e w' => e = .returned (.tuple #[Ag.zero.val, .int .i64 1]) ∧ Below w.heap.size w w' := by
  have m1 := fun w => rmay_any a w ha
  rw [decide_eq_false ma] at m1
  have M1 := Lib.hid m1
  have J := Lib.hid (joinW_facts w a b)
  clear m1 ha ma
  unfold Ag.zero Ag.val at *
  go_enter Tryz.func38, Tryz.ntmps38
  go_wp2_with fail
  refine (M1.out _).mono ?_
  rintro e w2 ⟨rfl, hb2⟩
  change Below (joinW w a b).heap.size (joinW w a b) w2 at hb2
  have HB := Lib.hid hb2
  clear hb2
  obtain ⟨z0, z1, z2, z3, z4, z5, z6⟩ := J.out.2.2.1.below HB.out
  obtain ⟨f0, f1, f2, f3, f4, f5, f6⟩ := J.out.2.2.2.1.below J.out.2.2.2.2.1 HB.out
  go_wp2
  (try simp only [Exit.inBlock, Exit.then])
  refine bodyPost_ret (v := .tuple #[.agg #[.int .i64 0, .int .i64 0, .int .i64 0, .int .i64 0, .int .i64 0, .int .i64 0, .int .i64 0], .int .i64 1]) ?_ rfl ⟨rfl, ?_⟩
  · rw [results_cell_tmp rfl]
    go_simp
  · have h := J.out.2.2.2.2.2
    have hw3 : Below w.heap.size w w2 := h.trans (HB.out.mono h.size)
    exact ((((((hw3.setCell (by simp; omega) _).setCell (by simp; omega) _).setCell (by simp; omega) _).setCell (by simp; omega) _).setCell (by simp; omega) _).setCell (by simp; omega) _).setCell (by simp; omega) _

/-- Join at every two aggregates. -/
theorem rjoin_any (a b : Ag) (w : World) (ha : a.ok) (hb : b.ok) :
    Calls Tryz.prog 38 #[a.val, b.val] w fun e w' => e = .returned (.tuple #[(join a b).1.val, .int .i64 (join a b).2]) ∧ Below w.heap.size w w' := by
  by_cases ma : a.may
  case neg =>
    have e : join a b = (Ag.zero, 1) := by unfold join; rw [if_neg (fun h => ma h.1)]
    rw [e]
    exact rjoin_first a b w ha ma
  by_cases mb : b.may
  case neg =>
    have e : join a b = (Ag.zero, 1) := by unfold join; rw [if_neg (fun h => mb h.2.1)]
    rw [e]
    exact rjoin_second a b w ha hb ma mb
  by_cases hc : a.cn + b.cn ≤ 1099511627776
  case neg =>
    have e : join a b = (Ag.zero, 1) := by unfold join; rw [if_neg (fun h => hc h.2.2)]
    rw [e]
    exact rjoin_many a b w ha hb ma mb hc
  by_cases hs : In64 (a.sm + b.sm)
  case neg =>
    have e : join a b = (Ag.zero, 3) := by unfold join; rw [if_pos ⟨ma, mb, hc⟩, if_neg hs]
    rw [e]
    exact rjoin_over a b w ha hb ma mb hc hs
  have e : join a b = (a.both b, 0) := by unfold join; rw [if_pos ⟨ma, mb, hc⟩, if_pos hs]
  rw [e]
  exact rjoin_yes a b w ha hb ma mb hc hs
end Go.Proofs.YtepancmkopifpaaGreatDoor
namespace Go.Proofs.YtepancmkopifpaaGreatDoor
open Go.RowKit
attribute [local go_sem ↓] Go.wp_at_zero Go.wp_at_succ
set_option linter.unusedVariables false

theorem join_none {a b : Ag} (h : (join a b).2 ≠ 0) : (join a b).1 = Ag.zero := by
  unfold join at h ⊢
  split
  · next h1 =>
    rw [if_pos h1] at h
    split
    · next h2 => rw [if_pos h2] at h; exact absurd rfl h
    · rfl
  · rfl

set_option maxRecDepth 100000 in
set_option maxHeartbeats 2000000 in
theorem rall_in (b off n cap : Nat) (l : List (Int × Int)) (f : Int) (w : World) (hl : l.length = n) (hlen : 1 ≤ n) (hb : ∀ s ∈ l, In64 s.1 ∧ In64 s.2) (hc : n ≤ cap) (hm : cap ≤ maxLen) (hf : Ag.begin_ f)
    (hcell : ∀ j, j < n → w.cell? ⟨b, off + j * 2, none⟩ = some (.int .i64 (l.getD j (0, 0)).1) ∧ w.cell? ⟨b, off + j * 2 + 1, none⟩ = some (.int .i64 (l.getD j (0, 0)).2)) :
    Calls Tryz.prog 73 #[.slice (some ⟨b, off, none⟩) n cap, .int .i64 f] w fun e w' => e = .returned (.tuple #[(all f (l.map (·.2))).1.val, .int .i64 (all f (l.map (·.2))).2]) ∧ Below w.heap.size w w' := by
  unfold maxLen at hm
  have hf64 : In64 f := by
    unfold Ag.begin_ at hf
    unfold In64
    omega
  obtain ⟨c0, c1⟩ := hcell 0 (by omega)
  simp only [Nat.zero_mul, Nat.add_zero] at c0 c1
  have hb0 := hb (l.getD 0 (0, 0)) (sample_mem (by omega))
  have hR : all f (l.map (·.2)) = goOn f (.one (l.getD 0 (0, 0)).2 f) ((l.map (·.2)).drop (0 + 1)) := all_at (by omega) hf
  generalize all f (l.map (·.2)) = R at hR
  obtain ⟨⟨Rfr, Rcn, Rsm, Rmn, Rmx, Rfi, Rla⟩, Rc⟩ := R
  generalize hs0 : l.getD 0 (0, 0) = s0 at c0 c1 hb0 hR
  obtain ⟨t0, v0⟩ := s0
  simp only at c0 c1 hb0 hR
  have m2 := fun w => rone_any t0 v0 f w hb0.2 hf64
  have M2 := Lib.hid m2
  have HCELL := Lib.hid hcell
  have HL := Lib.hid hl
  have HB := Lib.hid hb
  have HR := Lib.hid hR
  have HV0 := Lib.hid hb0.2
  have hlt : b < w.heap.size := World.block_lt_of_cell? w _ c0
  have HZ : Hid (Holds (w.alloc (.cells #[.int .i64 0, .int .i64 0, .int .i64 0, .int .i64 0, .int .i64 0, .int .i64 0, .int .i64 0] 50)) w.heap.size Ag.zero ∧ Free (w.alloc (.cells #[.int .i64 0, .int .i64 0, .int .i64 0, .int .i64 0, .int .i64 0, .int .i64 0, .int .i64 0] 50)) w.heap.size ∧ Below w.heap.size w (w.alloc (.cells #[.int .i64 0, .int .i64 0, .int .i64 0, .int .i64 0, .int .i64 0, .int .i64 0, .int .i64 0] 50)) ∧ w.heap.size < (w.alloc (.cells #[.int .i64 0, .int .i64 0, .int .i64 0, .int .i64 0, .int .i64 0, .int .i64 0, .int .i64 0] 50)).heap.size) := Lib.hid
    ⟨(zero_new w).1, (zero_new w).2.1, past_alloc (Below.refl _ _) _, (zero_new w).2.2⟩
  have HF := Lib.hid hf
  have HF64 := Lib.hid hf64
  have h0i : (0 : Int) < (n : Int) := by omega
  have h0n : 0 < n := hlen
  have f1 : ¬ f < 0 := by unfold Ag.begin_ at hf; omega
  have f2 : ¬ 1099511627776 < f := by unfold Ag.begin_ at hf; omega
  unfold Ag.val at *
  clear hcell hl hb hs0 m2 hb0 hR hf hf64
  go_enter Tryz.func73, Tryz.ntmps73
  go_wp2_with fail
  refine (M2.out _).mono ?_
  rintro e w2 ⟨rfl, hb2⟩
  have HH : Hid (AllHolds w (w2.alloc (.cells #[.int .i64 (Ag.one v0 f).fr, .int .i64 (Ag.one v0 f).cn, .int .i64 (Ag.one v0 f).sm, .int .i64 (Ag.one v0 f).mn, .int .i64 (Ag.one v0 f).mx, .int .i64 (Ag.one v0 f).fi, .int .i64 (Ag.one v0 f).la] 50)) w2.heap.size (Ag.one v0 f)) := Lib.hid (by
    obtain ⟨z1, z2, z3, z4⟩ := HZ.out
    have hb3 := (Below.refl w2.heap.size w2).alloc (Nat.le_refl _) (.cells #[.int .i64 (Ag.one v0 f).fr, .int .i64 (Ag.one v0 f).cn, .int .i64 (Ag.one v0 f).sm, .int .i64 (Ag.one v0 f).mn, .int .i64 (Ag.one v0 f).mx, .int .i64 (Ag.one v0 f).fi, .int .i64 (Ag.one v0 f).la] 50)
    refine ⟨?_, ?_, by simp, Nat.lt_of_lt_of_le z4 hb2.size, (z1.below hb2).below hb3, (z2.below z4 hb2).below (Nat.lt_of_lt_of_le z4 hb2.size) hb3, (z3.trans (hb2.mono z3.size)).trans (hb3.mono (Nat.le_trans z3.size hb2.size))⟩
    · unfold Holds
      simp
    · unfold Free
      simp)
  clear hb2 HZ c0 c1
  go_wp2
  generalize hg6 : w2.heap.size = g6 at *
  go_loopw [7] (fun si wr => ∃ (k : Nat) (a : Ag), 1 ≤ k ∧ k ≤ n ∧ si = .int .i64 (k : Int) ∧ Hid ((⟨Rfr, Rcn, Rsm, Rmn, Rmx, Rfi, Rla⟩, Rc) = goOn f a ((l.map (·.2)).drop k)) ∧ Hid a.ok ∧ Hid (AllHolds w wr g6 a)) (fun si _ => n - (intOf si).toNat)
  case atStart => exact ⟨1, Ag.one v0 f, by omega, by omega, rfl, HR, Lib.hid (one_ok HF.out HV0.out), HH⟩
  case round =>
    obtain ⟨k, a, hk1, hk, rfl, HD, HOK, HA⟩ := hrel
    by_cases hlt : k < n
    · obtain ⟨c0, c1⟩ := HCELL.out k hlt
      have hbk := HB.out (l.getD k (0, 0)) (sample_mem (by rw [HL.out]; omega))
      have hd := drop_map (l := l) (k := k) (by rw [HL.out]; omega)
      generalize l.getD k (0, 0) = s1 at c0 c1 hbk hd
      obtain ⟨t1, v1⟩ := s1
      simp only at c0 c1 hbk hd
      have hbel := HA.out.2.2.2.2.2.2
      rw [← hbel.cell (World.block_lt_of_cell? w _ c0)] at c0
      rw [← hbel.cell (World.block_lt_of_cell? w _ c1)] at c1
      have m3 := fun w => rone_any t1 v1 f w hbk.2 HF64.out
      have m4 := fun w => rjoin_any a (.one v1 f) w HOK.out (one_ok HF.out hbk.2)
      have hok := join_ok HOK.out (one_ok HF.out hbk.2)
      have hgo := goOn_cons f a v1 ((l.map (·.2)).drop (k + 1)) rfl
      rw [← hd, ← HD.out] at hgo
      have hjz := join_none (a := a) (b := .one v1 f)
      generalize join a (.one v1 f) = j at m4 hok hgo hjz
      obtain ⟨ja, jc⟩ := j
      simp only at m4 hok hgo hjz
      have HJZ := Lib.hid hjz
      clear hjz
      have M3 := Lib.hid m3
      have M4 := Lib.hid m4
      have HOK' := Lib.hid hok
      have HGO := Lib.hid hgo
      clear m3 m4 hok hgo hd hbk hbel HD HOK
      unfold Ag.val at M3 M4
      have hcap : (k : Int) < (n : Int) := by omega
      have hcap0 : (0 : Int) ≤ (k : Int) := by omega
      have C0 := Lib.hid c0
      have C1 := Lib.hid c1
      obtain ⟨a0, a1, a2, a3, a4, a5, a6⟩ := HA.out.1
      have HS : Hid (∀ w', Below wr.heap.size wr w' → w'.cell? ⟨b, off + k * 2, none⟩ = some (.int .i64 t1) ∧ w'.cell? ⟨b, off + k * 2 + 1, none⟩ = some (.int .i64 v1) ∧ w'.cell? ⟨g6, 0, none⟩ = some (.int .i64 a.fr) ∧ w'.cell? ⟨g6, 1, none⟩ = some (.int .i64 a.cn) ∧ w'.cell? ⟨g6, 2, none⟩ = some (.int .i64 a.sm) ∧ w'.cell? ⟨g6, 3, none⟩ = some (.int .i64 a.mn) ∧ w'.cell? ⟨g6, 4, none⟩ = some (.int .i64 a.mx) ∧ w'.cell? ⟨g6, 5, none⟩ = some (.int .i64 a.fi) ∧ w'.cell? ⟨g6, 6, none⟩ = some (.int .i64 a.la)) := Lib.hid (fun w' hb => ⟨by rw [hb.cell (World.block_lt_of_cell? wr _ C0.out)]; exact C0.out, by rw [hb.cell (World.block_lt_of_cell? wr _ C1.out)]; exact C1.out, (HA.out.below hb).1⟩)
      go_upto_region 7 with fail
      go_region_held3 (fun w' => w'.cell? ⟨b, off + k * 2, none⟩ = some (.int .i64 t1) ∧ w'.cell? ⟨b, off + k * 2 + 1, none⟩ = some (.int .i64 v1) ∧ w'.cell? ⟨g6, 0, none⟩ = some (.int .i64 a.fr) ∧ w'.cell? ⟨g6, 1, none⟩ = some (.int .i64 a.cn) ∧ w'.cell? ⟨g6, 2, none⟩ = some (.int .i64 a.sm) ∧ w'.cell? ⟨g6, 3, none⟩ = some (.int .i64 a.mn) ∧ w'.cell? ⟨g6, 4, none⟩ = some (.int .i64 a.mx) ∧ w'.cell? ⟨g6, 5, none⟩ = some (.int .i64 a.fi) ∧ w'.cell? ⟨g6, 6, none⟩ = some (.int .i64 a.la))
        ((refine HS.out _ ?_
          first
            | with_reducible exact hBv
            | with_reducible exact past_alloc hBv _
            | with_reducible exact below_set hBv (Nat.le_refl _) _ _ _ _ _ _ _
            | with_reducible exact below_set hBv (hB.size) _ _ _ _ _ _ _
            | with_reducible exact hB
            | with_reducible exact past_alloc hB _
            | exact belowN wr 1
            | exact past_alloc (belowN wr 1) _
            | exact past (past_alloc (Below.refl _ _) _) (belowN _ 1)))
        (first
          | (go_at_call 94; refine (M3.out _).mono ?_; rintro e wt ⟨rfl, hbt⟩
             first
               | (have hB : Below wr.heap.size wr wt := (belowN wr 1).trans hbt)
               | (have hbt' := (belowN (wr.alloc (.cells #[.int .i64 0, .int .i64 0, .int .i64 0, .int .i64 0, .int .i64 0, .int .i64 0, .int .i64 0] 50)) 1).trans hbt
                  have hB : Below wr.heap.size wr wt := past (past_alloc (Below.refl _ _) _) hbt'
                  have hz8 : Holds wt wr.heap.size Ag.zero := (zero_new wr).1.below hbt'
                  have hf8 : Free wt wr.heap.size := (zero_new wr).2.1.below (zero_new wr).2.2 hbt'))
          | (go_at_call 38; refine (M4.out _).mono ?_; rintro e wv ⟨rfl, hbv⟩
             first
               | (have hz9 := hz8.below hbv
                  have hf9 := hf8.below hz8.lt hbv
                  have hBv : Below wr.heap.size wr wv := hB.trans (hbv.mono hB.size)
                  unfold Ag.zero at hz9
                  obtain ⟨z0, z1, z2, z3, z4, z5, z6⟩ := hz9
                  obtain ⟨f0, f1, f2, f3, f4, f5, f6⟩ := hf9)
               | (have hBv : Below wr.heap.size wr wv := hB.trans (hbv.mono hB.size))
               | (have hBv : Below wr.heap.size wr wv := past (past_alloc hB _) hbv
                  have hz7 : Holds wv wt.heap.size Ag.zero := (zero_new wt).1.below hbv
                  have hf7 : Free wv wt.heap.size := (zero_new wt).2.1.below (zero_new wt).2.2 hbv
                  unfold Ag.zero at hz7
                  obtain ⟨z0, z1, z2, z3, z4, z5, z6⟩ := hz7
                  obtain ⟨f0, f1, f2, f3, f4, f5, f6⟩ := hf7)))
      all_goals first
        | (have hk8 := hz8
           have HT : Hid (AllHolds w (((((((wv.setCell ⟨wr.heap.size, 0, none⟩ (.int .i64 ja.fr)).setCell ⟨wr.heap.size, 1, none⟩ (.int .i64 ja.cn)).setCell ⟨wr.heap.size, 2, none⟩ (.int .i64 ja.sm)).setCell ⟨wr.heap.size, 3, none⟩ (.int .i64 ja.mn)).setCell ⟨wr.heap.size, 4, none⟩ (.int .i64 ja.mx)).setCell ⟨wr.heap.size, 5, none⟩ (.int .i64 ja.fi)).setCell ⟨wr.heap.size, 6, none⟩ (.int .i64 ja.la)) g6 a ∧ Holds (((((((wv.setCell ⟨wr.heap.size, 0, none⟩ (.int .i64 ja.fr)).setCell ⟨wr.heap.size, 1, none⟩ (.int .i64 ja.cn)).setCell ⟨wr.heap.size, 2, none⟩ (.int .i64 ja.sm)).setCell ⟨wr.heap.size, 3, none⟩ (.int .i64 ja.mn)).setCell ⟨wr.heap.size, 4, none⟩ (.int .i64 ja.mx)).setCell ⟨wr.heap.size, 5, none⟩ (.int .i64 ja.fi)).setCell ⟨wr.heap.size, 6, none⟩ (.int .i64 ja.la)) wr.heap.size ja) := Lib.hid ⟨HA.out.below (below_set hBv (Nat.le_refl _) _ _ _ _ _ _ _), holds_set (a0 := Ag.zero) ⟨z0, z1, z2, z3, z4, z5, z6⟩⟩
           clear hk8 hz8 hf8 hbt' z0 z1 z2 z3 z4 z5 z6 f0 f1 f2 f3 f4 f5 f6
           clear hbt hB hbv hBv a0 a1 a2 a3 a4 a5 a6 c0 c1 HS C0 C1 HA M3 M4
           generalize (((((((wv.setCell ⟨wr.heap.size, 0, none⟩ (.int .i64 ja.fr)).setCell ⟨wr.heap.size, 1, none⟩ (.int .i64 ja.cn)).setCell ⟨wr.heap.size, 2, none⟩ (.int .i64 ja.sm)).setCell ⟨wr.heap.size, 3, none⟩ (.int .i64 ja.mn)).setCell ⟨wr.heap.size, 4, none⟩ (.int .i64 ja.mx)).setCell ⟨wr.heap.size, 5, none⟩ (.int .i64 ja.fi)).setCell ⟨wr.heap.size, 6, none⟩ (.int .i64 ja.la)) = wq at *
           generalize wr.heap.size = g8 at *)
        | (have hk8 := z0
           have HT : Hid (AllHolds w (((((((wv.setCell ⟨wt.heap.size, 0, none⟩ (.int .i64 ja.fr)).setCell ⟨wt.heap.size, 1, none⟩ (.int .i64 ja.cn)).setCell ⟨wt.heap.size, 2, none⟩ (.int .i64 ja.sm)).setCell ⟨wt.heap.size, 3, none⟩ (.int .i64 ja.mn)).setCell ⟨wt.heap.size, 4, none⟩ (.int .i64 ja.mx)).setCell ⟨wt.heap.size, 5, none⟩ (.int .i64 ja.fi)).setCell ⟨wt.heap.size, 6, none⟩ (.int .i64 ja.la)) g6 a ∧ Holds (((((((wv.setCell ⟨wt.heap.size, 0, none⟩ (.int .i64 ja.fr)).setCell ⟨wt.heap.size, 1, none⟩ (.int .i64 ja.cn)).setCell ⟨wt.heap.size, 2, none⟩ (.int .i64 ja.sm)).setCell ⟨wt.heap.size, 3, none⟩ (.int .i64 ja.mn)).setCell ⟨wt.heap.size, 4, none⟩ (.int .i64 ja.mx)).setCell ⟨wt.heap.size, 5, none⟩ (.int .i64 ja.fi)).setCell ⟨wt.heap.size, 6, none⟩ (.int .i64 ja.la)) wt.heap.size ja) := Lib.hid ⟨HA.out.below (below_set hBv hB.size _ _ _ _ _ _ _), holds_set (a0 := Ag.zero) ⟨z0, z1, z2, z3, z4, z5, z6⟩⟩
           clear hk8 z0 z1 z2 z3 z4 z5 z6 f0 f1 f2 f3 f4 f5 f6
           clear hbt hB hbv hBv a0 a1 a2 a3 a4 a5 a6 c0 c1 HS C0 C1 HA M3 M4
           generalize (((((((wv.setCell ⟨wt.heap.size, 0, none⟩ (.int .i64 ja.fr)).setCell ⟨wt.heap.size, 1, none⟩ (.int .i64 ja.cn)).setCell ⟨wt.heap.size, 2, none⟩ (.int .i64 ja.sm)).setCell ⟨wt.heap.size, 3, none⟩ (.int .i64 ja.mn)).setCell ⟨wt.heap.size, 4, none⟩ (.int .i64 ja.mx)).setCell ⟨wt.heap.size, 5, none⟩ (.int .i64 ja.fi)).setCell ⟨wt.heap.size, 6, none⟩ (.int .i64 ja.la)) = wq at *
           generalize wt.heap.size = g8 at *)
        | (have HT : Hid (AllHolds w (wv.alloc (.cells #[.int .i64 ja.fr, .int .i64 ja.cn, .int .i64 ja.sm, .int .i64 ja.mn, .int .i64 ja.mx, .int .i64 ja.fi, .int .i64 ja.la] 50)) g6 a ∧ Holds (wv.alloc (.cells #[.int .i64 ja.fr, .int .i64 ja.cn, .int .i64 ja.sm, .int .i64 ja.mn, .int .i64 ja.mx, .int .i64 ja.fi, .int .i64 ja.la] 50)) wv.heap.size ja) := Lib.hid ⟨HA.out.below (past_alloc hBv _), Holds.new wv ja⟩
           clear hbt hB hbv hBv a0 a1 a2 a3 a4 a5 a6 c0 c1 HS C0 C1 HA M3 M4
           generalize (wv.alloc (.cells #[.int .i64 ja.fr, .int .i64 ja.cn, .int .i64 ja.sm, .int .i64 ja.mn, .int .i64 ja.mx, .int .i64 ja.fi, .int .i64 ja.la] 50)) = wq at *
           generalize wv.heap.size = g8 at *)
      all_goals
        obtain ⟨d0, d1, d2, d3, d4, d5, d6⟩ := HT.out.2
        by_cases hz : jc = 0
        · have HN := Lib.hid (HGO.out.trans (if_pos hz))
          subst hz
          obtain ⟨a0, a1, a2, a3, a4, a5, a6⟩ := HT.out.1.1
          obtain ⟨g0, g1, g2, g3, g4, g5, g6'⟩ := HT.out.1.2.1
          have HW := Lib.hid (AllHolds.set ja HT.out.1)
          clear HT
          go_wp2
          go_roundw
          case rel => exact ⟨k + 1, ja, by omega, by omega, by go_num, HN, HOK', HW⟩
          case measure => simp [intOf]; omega
        · have HN := Lib.hid (HGO.out.trans (if_neg hz))
          have hja := HJZ.out hz
          have hz' : (jc == 0) = false := by simpa using hz
          clear d0 d1 d2 d3 d4 d5 d6
          obtain ⟨z0, z1, z2, z3, z4, z5, z6⟩ := HT.out.1.2.2.2.2.1
          obtain ⟨f0, f1, f2, f3, f4, f5, f6⟩ := HT.out.1.2.2.2.2.2.1
          have HJA := Lib.hid hja
          clear hja
          go_wp2
          (try rw [Exit.noGoto_ret])
          (try simp only [Exit.inBlock, Exit.then])
          refine bodyPost_ret (v := .tuple #[.agg #[.int .i64 0, .int .i64 0, .int .i64 0, .int .i64 0, .int .i64 0, .int .i64 0, .int .i64 0], .int .i64 jc]) ?_ rfl ⟨?_, ?_⟩
          · rw [results_cell_tmp rfl]
            go_simp
          · have e := HN.out
            rw [HJA.out] at e
            unfold Ag.zero at e
            injection e with e1 e2
            injection e1 with e1 e3 e4 e5 e6 e7 e8
            subst e1 e2 e3 e4 e5 e6 e7 e8
            rfl
          · exact below_set HT.out.1.2.2.2.2.2.2 (Nat.le_refl _) _ _ _ _ _ _ _
    · obtain ⟨d0, d1, d2, d3, d4, d5, d6⟩ := HA.out.1
      obtain ⟨z0, z1, z2, z3, z4, z5, z6⟩ := HA.out.2.2.2.2.1
      obtain ⟨f0, f1, f2, f3, f4, f5, f6⟩ := HA.out.2.2.2.2.2.1
      go_wp2
      (try rw [Exit.noGoto_ret])
      (try simp only [Exit.inBlock, Exit.then])
      refine bodyPost_ret (v := .tuple #[.agg #[.int .i64 a.fr, .int .i64 a.cn, .int .i64 a.sm, .int .i64 a.mn, .int .i64 a.mx, .int .i64 a.fi, .int .i64 a.la], .int .i64 0]) ?_ rfl ⟨?_, ?_⟩
      · rw [results_cell_tmp rfl]
        go_simp
      · have e := HD.out
        rw [List.drop_eq_nil_of_le (by rw [List.length_map, HL.out]; omega)] at e
        obtain ⟨fr, cn, sm, mn, mx, fi, la⟩ := a
        injection e with e1 e2
        injection e1 with e1 e3 e4 e5 e6 e7 e8
        subst e1 e2 e3 e4 e5 e6 e7 e8
        rfl
      · exact below_set HA.out.2.2.2.2.2.2 (Nat.le_refl _) _ _ _ _ _ _ _

theorem rall_any {A : Option Addr} {len cap : Nat} {l : List (Int × Int)} (f : Int) {w : World} (hl : l.length = len) (hlen : 1 ≤ len) (hS : Samps w A l) (hc : len ≤ cap) (hm : cap ≤ maxLen) (hf : Ag.begin_ f) :
    Calls Tryz.prog 73 #[.slice A len cap, .int .i64 f] w fun e w' => e = .returned (.tuple #[(all f (l.map (·.2))).1.val, .int .i64 (all f (l.map (·.2))).2]) ∧ Below w.heap.size w w' := by
  obtain ⟨b, off, rfl, hcell⟩ := hS.2 (by omega)
  rw [hl] at hcell
  exact rall_in b off len cap l f w hl hlen hS.1 hc hm hf hcell
end Go.Proofs.YtepancmkopifpaaGreatDoor
namespace Go.Proofs.YtepancmkopifpaaGreatDoor
open Go.RowKit
attribute [local go_sem ↓] Go.wp_at_zero Go.wp_at_succ
set_option linter.unusedVariables false

theorem tAt_drop (l : List (Int × Int)) (i j : Nat) : tAt (l.drop i) j = tAt l (i + j) := by
  unfold tAt
  rw [List.getD_eq_getElem?_getD, List.getD_eq_getElem?_getD, List.getElem?_drop]
theorem samp_drop {l : List (Int × Int)} {i : Nat} (h : i < l.length) : l.drop i = l.getD i (0, 0) :: l.drop (i + 1) := by
  rw [List.drop_eq_getElem_cons h]
  congr 1
  simp [h]
theorem rise_le {l : List (Int × Int)} (h : Rise l) {i j : Nat} (hij : i ≤ j) (hj : j < l.length) : tAt l i ≤ tAt l j := by
  rcases Nat.lt_or_ge i j with hlt | hge
  · have h1 := rise_drop i h
    rw [samp_drop (show i < l.length by omega)] at h1
    have hm : l.getD j (0, 0) ∈ l.drop (i + 1) := by
      have e : l.getD j (0, 0) = (l.drop (i + 1)).getD (j - (i + 1)) (0, 0) := by
        rw [List.getD_eq_getElem?_getD, List.getD_eq_getElem?_getD, List.getElem?_drop, show i + 1 + (j - (i + 1)) = j by omega]
      rw [e]
      exact sample_mem (by rw [List.length_drop]; omega)
    have := (rise_lt h1 _ hm).1
    unfold tAt
    omega
  · obtain rfl : i = j := by omega
    exact Int.le_refl _
/-- Where the document's search for a window's end stands is how many lie ahead of its end. -/
theorem window_cnt {l : List (Int × Int)} {k : Int} {i m : Nat} (hk : coarse k) (hr : Rise l) (hi : i < l.length) (him : i < m) (hm : m ≤ l.length)
    (h1 : ∀ j, i ≤ j → j < m → flr (tAt l j) k = flr (tAt l i) k) (h2 : m < l.length → flr (tAt l m) k ≠ flr (tAt l i) k) : cnt (flr (tAt l i) k + wid k) (l.drop (i + 1)) = m - (i + 1) := by
  refine cnt_eq (fun j hj => ?_) (by rw [List.length_drop]; omega) (fun hlt h => ?_)
  · rw [tAt_drop, ← h1 (i + 1 + j) (by omega) (by omega)]
    exact (flr_le hk (hr (i + 1 + j) (by omega)).1).2.2
  · rw [List.length_drop] at hlt
    rw [tAt_drop, show i + 1 + (m - (i + 1)) = m by omega] at h
    exact h2 (by omega) (flr_same hk (hr i hi).1 (hr m (by omega)).1 (rise_le hr (by omega) (by omega)) h)

/-- What the document's Raw holds in its loop. -/
structure RRawInv (w wr : World) (k : Int) (i : Nat) (l : List (Int × Int)) (out : List Ag) (v : Value) (R : List Ag × Int) : Prop where
  says : R = rawOn k out (l.drop i)
  room : out.length ≤ i
  own : wr.ownsRow w.heap.size 50 7 v out.length (aggV out)
  ok : ∀ a ∈ out, a.ok
  below : Below w.heap.size w wr

theorem RRawInv.past {w wr wx : World} {k : Int} {i : Nat} {l : List (Int × Int)} {out : List Ag} {v : Value} {R : List Ag × Int} (h : RRawInv w wr k i l out v R) (hb : Below wr.heap.size wr wx) : RRawInv w wx k i l out v R :=
  ⟨h.says, h.room, own7_below h.own hb, h.ok, Go.Proofs.YtepancmkopifpaaGreatDoor.past h.below hb⟩

set_option maxRecDepth 100000 in
set_option maxHeartbeats 4000000 in
theorem rraw_in (b off n cap : Nat) (l : List (Int × Int)) (k : Int) (w : World) (hl : l.length = n) (h0 : 0 < n) (hS : Samps w (some ⟨b, off, none⟩) l) (hc : n ≤ cap) (hm : cap ≤ maxLen) (hk : coarse k) (hr : Rise l) (hn : n ≤ 1000) :
    Calls Tryz.prog 39 #[.slice (some ⟨b, off, none⟩) n cap, .int .i64 k] w (Gives w (rawOn k [] l)) := by
  have hk64 : In64 k := by unfold coarse at hk; unfold In64; omega
  have m1 := rrising_any hl hS hc hm
  rw [decide_eq_true hr] at m1
  have M1 := Lib.hid m1
  obtain ⟨R, hR⟩ : ∃ R, rawOn k [] l = R := ⟨_, rfl⟩
  rw [hR]
  unfold Gives
  have HSTART : Hid (∀ wr, Below w.heap.size w wr → RRawInv w wr k 0 l [] (.slice none 0 0) R) := Lib.hid (fun wr hb => ⟨hR.symm, by simp, World.ownsRow_nil _ _ _ _, by simp, hb⟩)
  have HCELL : Hid (∀ j, j < n → ∀ w', Below w.heap.size w w' → w'.cell? ⟨b, off + j * 2, none⟩ = some (.int .i64 (tAt l j))) := Lib.hid (fun j hj w' hb => by
    obtain ⟨b', o', e, hcc⟩ := (hS.below hb).2 (by omega)
    injection e with e
    injection e with e1 e2
    subst e1 e2
    exact (hcc j (by omega)).1)
  have HT64 : Hid (∀ j, j < n → In64 (tAt l j)) := Lib.hid (fun j hj => (hS.1 _ (sample_mem (by omega))).1)
  have HS := Lib.hid hS
  have HL := Lib.hid hl
  have HK := Lib.hid hk
  have HK64 := Lib.hid hk64
  have HRISE := Lib.hid hr
  have HMAX := Lib.hid hm
  unfold maxLen at hm
  unfold coarse at hk
  obtain ⟨k1, k3⟩ := hk
  have k1' : ¬ k < 1 := by omega
  have k3' : ¬ 3 < k := by omega
  have h0i : (0 : Int) < (n : Int) := by omega
  clear m1 hR hS hr hl hk64
  go_enter Tryz.func39, Tryz.ntmps39
  go_wp2_with fail
  refine M1.out.mono ?_
  rintro e w2 ⟨rfl, hb2⟩
  have HB2 := Lib.hid hb2
  clear hb2
  go_wp2
  go_loopw [6, 7] (fun so si wr => ∃ (out : List Ag) (i : Nat), i ≤ n ∧ si = .int .i64 (i : Int) ∧ Hid (RRawInv w wr k i l out so R)) (fun _ si _ => n - (intOf si).toNat)
  case atStart => exact ⟨[], 0, by omega, rfl, Lib.hid (HSTART.out _ HB2.out)⟩
  case round =>
    obtain ⟨out, i, hi, rfl, HI⟩ := hrel
    by_cases hlt : i < n
    · have i1 : (i : Int) < (n : Int) := by omega
      have i0 : (0 : Int) ≤ (i : Int) := by omega
      have HMF : Hid (∀ j, j < n → ∀ w', Calls Tryz.prog 45 #[.int .i64 (tAt l j), .int .i64 k] w' fun e w'' => e = .returned (.int .i64 (flr (tAt l j) k)) ∧ w' = w'') := Lib.hid (fun j hj w' => rfloor_any _ k w' (HT64.out j hj) HK64.out)
      obtain ⟨Fi, hFi⟩ : ∃ Fi, flr (tAt l i) k = Fi := ⟨_, rfl⟩
      have HFI := Lib.hid hFi
      have MI := Lib.hid (HMF.out i hlt)
      rw [hFi] at MI
      obtain ⟨ti, hti⟩ : ∃ ti, tAt l i = ti := ⟨_, rfl⟩
      have HTI := Lib.hid hti
      rw [hti] at MI
      clear hFi hti
      go_wp2
      go_loopw [8] (fun sn wx => ∃ (m : Nat), i ≤ m ∧ m ≤ n ∧ sn = .int .i64 (m : Int) ∧ Hid (∀ j, i ≤ j → j < m → flr (tAt l j) k = Fi) ∧ Hid (RRawInv w wx k i l out u6 R)) (fun sn _ => n - (intOf sn).toNat)
      case atStart => exact ⟨i, by omega, by omega, rfl, Lib.hid (fun j h1 h2 => absurd h1 (by omega)), HI⟩
      case round =>
        obtain ⟨m, him, hmn, rfl, HJ, HI2⟩ := hrel
        have ci := HCELL.out i hlt wr HI2.out.below
        rw [HTI.out] at ci
        by_cases hgo : m < n ∧ flr (tAt l m) k = Fi
        · obtain ⟨hm1, hm2⟩ := hgo
          have cm := HCELL.out m hm1 wr HI2.out.below
          have MM := Lib.hid (HMF.out m hm1)
          rw [hm2] at MM
          have HNX : Hid (∀ j, i ≤ j → j < m + 1 → flr (tAt l j) k = Fi) := Lib.hid (fun j h1 h2 => by
            rcases Nat.lt_or_ge j m with h3 | h3
            · exact HJ.out j h1 h3
            · obtain rfl : j = m := by omega
              exact hm2)
          generalize tAt l m = tm at cm MM
          have q1 : (m : Int) < (n : Int) := by omega
          have q0 : (0 : Int) ≤ (m : Int) := by omega
          clear hm2
          go_upto_region 7 with fail
          go_quiet (first | (go_at_call_of 45 (Value.int .i64 tm); exact quiet_same (MM.out _)) | (go_at_call_of 45 (Value.int .i64 ti); exact quiet_same (MI.out _)))
          have HI3 := Lib.hid (HI2.out.past (belowN wr nq))
          clear ci cm
          generalize wr.drewN nq = wy at *
          go_wp2
          go_roundw
          case rel => exact ⟨m + 1, by omega, by omega, by go_num, HNX, HI3⟩
          case measure => simp [intOf]; omega
        have hi2 : i < m := by
          rcases Nat.lt_or_ge i m with h | h
          · exact h
          · obtain rfl : i = m := by omega
            exact absurd ⟨hlt, HFI.out⟩ hgo
        have hbe : Ag.begin_ ti := by rw [← HTI.out]; exact (HRISE.out i (by rw [HL.out]; exact hlt)).1
        have hcn : cnt (flr (tAt l i) k + wid k) (l.drop (i + 1)) = m - (i + 1) := window_cnt HK.out HRISE.out (by rw [HL.out]; exact hlt) hi2 (by rw [HL.out]; exact hmn) (fun j h1 h2 => by rw [HJ.out j h1 h2, HFI.out]) (fun h1 h2 => hgo ⟨by rw [HL.out] at h1; exact h1, h2.trans HFI.out⟩)
        have hfb : Ag.begin_ Fi := by rw [← HFI.out]; rw [HTI.out]; exact flr_begin HK.out hbe
        have hx := rfl (a := all Fi ((l.getD i (0, 0)).2 :: ((l.drop (i + 1)).take (m - (i + 1))).map (·.2)))
        generalize hx1 : all Fi ((l.getD i (0, 0)).2 :: ((l.drop (i + 1)).take (m - (i + 1))).map (·.2)) = x at hx
        have hsay := rawOn_cons k out (l.getD i (0, 0)) (l.drop (i + 1)) (x := x) hcn (by
          have e : flr (l.getD i (0, 0)).1 k = Fi := HFI.out
          rw [e]; exact hx1)
        rw [← samp_drop (by rw [HL.out]; exact hlt), List.drop_drop, show i + 1 + (m - (i + 1)) = m by omega] at hsay
        have hxok := all_ok Fi hfb ((l.getD i (0, 0)).2 :: ((l.drop (i + 1)).take (m - (i + 1))).map (·.2)) (fun v hv => by
          rw [List.mem_cons] at hv
          rcases hv with rfl | hv
          · exact (HS.out.1 _ (sample_mem (by rw [HL.out]; exact hlt))).2
          · obtain ⟨s, hs, rfl⟩ := List.mem_map.1 hv
            exact (HS.out.1 s (List.mem_of_mem_drop (List.mem_of_mem_take hs))).2)
        rw [hx1] at hxok
        have hsub : ((l.drop i).take (m - i)).map (·.2) = (l.getD i (0, 0)).2 :: ((l.drop (i + 1)).take (m - (i + 1))).map (·.2) := by
          rw [samp_drop (by rw [HL.out]; exact hlt), show m - i = (m - (i + 1)) + 1 by omega, List.take_succ_cons, List.map_cons]
        have MA : Hid (∀ w', Below w.heap.size w w' → Calls Tryz.prog 73 #[.slice (some ⟨b, off + i * 2, none⟩) (m - i) (cap - i), .int .i64 Fi] w' fun e w'' => e = .returned (.tuple #[x.1.val, .int .i64 x.2]) ∧ Below w'.heap.size w' w'') := Lib.hid (fun w' hb => by
          have := rall_any (len := m - i) (cap := cap - i) Fi (by rw [List.length_take, List.length_drop, HL.out]; omega) (by omega) (((HS.out.below hb).rest i).sub (m - i)) (by omega) (by have := HMAX.out; omega) hfb
          rwa [hsub, hx1] at this)
        obtain ⟨xa, xc⟩ := x
        simp only at hsay hxok MA
        unfold Ag.val at MA
        have HSAY := Lib.hid hsay
        have HXOK := Lib.hid hxok
        have hrm : out.length + 1 ≤ 1000 := by have := HI2.out.room; omega
        clear hsay hxok hx hx1 hcn hsub hbe hfb
        have j1 : (m : Int) ≤ (cap : Int) := by omega
        have j2 : (i : Int) ≤ (m : Int) := by omega
        have j3 : (i : Int) < (cap : Int) := by omega
        have j4 : (0 : Int) ≤ (m : Int) := by omega
        have j5 : i < cap := by omega
        have j6 : (m : Int) ≤ (n : Int) := by omega
        by_cases hm1 : m < n
        case' pos =>
          have cm := HCELL.out m hm1 wr HI2.out.below
          have MM := Lib.hid (HMF.out m hm1)
          have hne : (flr (tAt l m) k == Fi) = false := by simpa using fun e => hgo ⟨hm1, e⟩
          generalize flr (tAt l m) k = Fm at MM hne
          generalize tAt l m = tm at cm MM
          have q1 : (m : Int) < (n : Int) := by omega
          clear hgo
          go_upto_region 7 with fail
          go_quiet (first | (go_at_call_of 45 (Value.int .i64 tm); exact quiet_same (MM.out _)) | (go_at_call_of 45 (Value.int .i64 ti); exact quiet_same (MI.out _)))
          clear cm
        case' neg =>
          have q1 : ¬ (m : Int) < (n : Int) := by omega
          have q2 : decide ((m : Int) < (n : Int)) = false := decide_eq_false q1
          clear hgo
          go_upto_region 7 with fail
          go_quiet (fail)
        all_goals
          have HI3 := Lib.hid (HI2.out.past (belowN wr nq))
          clear ci
          generalize wr.drewN nq = wy at *
          have ci := HCELL.out i hlt wy HI3.out.below
          rw [HTI.out] at ci
          have HSK : Hid (∀ w', Below wy.heap.size wy w' → w'.cell? ⟨b, off + i * 2, none⟩ = some (.int .i64 ti)) := Lib.hid (fun w' hb => by
            have := HCELL.out i hlt w' (past HI3.out.below hb)
            rwa [HTI.out] at this)
          have HMA : Hid (∀ w', Below wy.heap.size wy w' → Below w.heap.size w w') := Lib.hid (fun w' hb => past HI3.out.below hb)
          go_upto_region 9 with fail
          go_region_held3 (fun w' => w'.cell? ⟨b, off + i * 2, none⟩ = some (.int .i64 ti))
            ((refine HSK.out _ ?_
              first
                | with_reducible exact hB
                | with_reducible exact past_alloc hB _
                | with_reducible exact below_set hB (Nat.le_refl _) _ _ _ _ _ _ _
                | exact belowN wy 1
                | exact past_alloc (belowN wy 1) _
                | exact past (past_alloc (Below.refl _ _) _) (belowN _ 1)))
            (first
              | (go_at_call 45; refine (MI.out _).mono ?_; rintro e wt ⟨rfl, rfl⟩)
              | (go_at_call 73
                 first
                   | (refine (MA.out _ (HMA.out _ (belowN wy 1))).mono ?_; rintro e wt ⟨rfl, hbt⟩; have hB : Below wy.heap.size wy wt := (belowN wy 1).trans hbt)
                   | (refine (MA.out _ (HMA.out _ (past (past_alloc (Below.refl wy.heap.size wy) (.cells #[.int .i64 0, .int .i64 0, .int .i64 0, .int .i64 0, .int .i64 0, .int .i64 0, .int .i64 0] 50)) (belowN _ 1)))).mono ?_; rintro e wt ⟨rfl, hbt⟩
                      have hbt' := (belowN (wy.alloc (.cells #[.int .i64 0, .int .i64 0, .int .i64 0, .int .i64 0, .int .i64 0, .int .i64 0, .int .i64 0] 50)) 1).trans hbt
                      have hB : Below wy.heap.size wy wt := past (past_alloc (Below.refl _ _) _) hbt'
                      have hz8 : Holds wt wy.heap.size Ag.zero := (zero_new wy).1.below hbt'
                      have hf8 : Free wt wy.heap.size := (zero_new wy).2.1.below (zero_new wy).2.2 hbt'
                      unfold Ag.zero at hz8
                      obtain ⟨z0, z1, z2, z3, z4, z5, z6⟩ := hz8
                      obtain ⟨f0, f1, f2, f3, f4, f5, f6⟩ := hf8)))
        all_goals first
          | (have hk8 := z0
             have HT : Hid (Holds (((((((wt.setCell ⟨wy.heap.size, 0, none⟩ (.int .i64 xa.fr)).setCell ⟨wy.heap.size, 1, none⟩ (.int .i64 xa.cn)).setCell ⟨wy.heap.size, 2, none⟩ (.int .i64 xa.sm)).setCell ⟨wy.heap.size, 3, none⟩ (.int .i64 xa.mn)).setCell ⟨wy.heap.size, 4, none⟩ (.int .i64 xa.mx)).setCell ⟨wy.heap.size, 5, none⟩ (.int .i64 xa.fi)).setCell ⟨wy.heap.size, 6, none⟩ (.int .i64 xa.la)) wy.heap.size xa ∧ (((((((wt.setCell ⟨wy.heap.size, 0, none⟩ (.int .i64 xa.fr)).setCell ⟨wy.heap.size, 1, none⟩ (.int .i64 xa.cn)).setCell ⟨wy.heap.size, 2, none⟩ (.int .i64 xa.sm)).setCell ⟨wy.heap.size, 3, none⟩ (.int .i64 xa.mn)).setCell ⟨wy.heap.size, 4, none⟩ (.int .i64 xa.mx)).setCell ⟨wy.heap.size, 5, none⟩ (.int .i64 xa.fi)).setCell ⟨wy.heap.size, 6, none⟩ (.int .i64 xa.la)).ownsRow w.heap.size 50 7 u6 out.length (aggV out) ∧ Below w.heap.size w (((((((wt.setCell ⟨wy.heap.size, 0, none⟩ (.int .i64 xa.fr)).setCell ⟨wy.heap.size, 1, none⟩ (.int .i64 xa.cn)).setCell ⟨wy.heap.size, 2, none⟩ (.int .i64 xa.sm)).setCell ⟨wy.heap.size, 3, none⟩ (.int .i64 xa.mn)).setCell ⟨wy.heap.size, 4, none⟩ (.int .i64 xa.mx)).setCell ⟨wy.heap.size, 5, none⟩ (.int .i64 xa.fi)).setCell ⟨wy.heap.size, 6, none⟩ (.int .i64 xa.la))) := Lib.hid (by
               have hno : u6.ownBlock ≠ some wy.heap.size := fun e => by
                 have := (HI3.out.own.lt _ e).2
                 omega
               refine ⟨holds_set (a0 := Ag.zero) ⟨z0, z1, z2, z3, z4, z5, z6⟩, ?_, below_set (past HI3.out.below hB) HI3.out.below.size _ _ _ _ _ _ _⟩
               exact ownsRow_setCell_other (ownsRow_setCell_other (ownsRow_setCell_other (ownsRow_setCell_other (ownsRow_setCell_other (ownsRow_setCell_other (ownsRow_setCell_other (own7_below HI3.out.own hB) hno _) hno _) hno _) hno _) hno _) hno _) hno _)
             clear hk8 z0 z1 z2 z3 z4 z5 z6 f0 f1 f2 f3 f4 f5 f6 hbt hbt' hB ci HSK HMA MA
             generalize (((((((wt.setCell ⟨wy.heap.size, 0, none⟩ (.int .i64 xa.fr)).setCell ⟨wy.heap.size, 1, none⟩ (.int .i64 xa.cn)).setCell ⟨wy.heap.size, 2, none⟩ (.int .i64 xa.sm)).setCell ⟨wy.heap.size, 3, none⟩ (.int .i64 xa.mn)).setCell ⟨wy.heap.size, 4, none⟩ (.int .i64 xa.mx)).setCell ⟨wy.heap.size, 5, none⟩ (.int .i64 xa.fi)).setCell ⟨wy.heap.size, 6, none⟩ (.int .i64 xa.la)) = wz at *
             generalize wy.heap.size = g8 at *)
          | (have HT : Hid (Holds (wt.alloc (.cells #[.int .i64 xa.fr, .int .i64 xa.cn, .int .i64 xa.sm, .int .i64 xa.mn, .int .i64 xa.mx, .int .i64 xa.fi, .int .i64 xa.la] 50)) wt.heap.size xa ∧ (wt.alloc (.cells #[.int .i64 xa.fr, .int .i64 xa.cn, .int .i64 xa.sm, .int .i64 xa.mn, .int .i64 xa.mx, .int .i64 xa.fi, .int .i64 xa.la] 50)).ownsRow w.heap.size 50 7 u6 out.length (aggV out) ∧ Below w.heap.size w (wt.alloc (.cells #[.int .i64 xa.fr, .int .i64 xa.cn, .int .i64 xa.sm, .int .i64 xa.mn, .int .i64 xa.mx, .int .i64 xa.fi, .int .i64 xa.la] 50))) := Lib.hid
               ⟨Holds.new wt xa, own7_below HI3.out.own (past_alloc hB _), past_alloc (past HI3.out.below hB) _⟩
             clear hbt hB ci HSK HMA MA
             generalize (wt.alloc (.cells #[.int .i64 xa.fr, .int .i64 xa.cn, .int .i64 xa.sm, .int .i64 xa.mn, .int .i64 xa.mx, .int .i64 xa.fi, .int .i64 xa.la] 50)) = wz at *
             generalize wt.heap.size = g8 at *)
        all_goals
          by_cases hz : xc = 0
          case neg =>
            have HN : Hid (R = ([], xc)) := Lib.hid (by rw [HI3.out.says, HSAY.out, if_neg hz])
            have hz' : (xc == 0) = false := by simpa using hz
            go_wp2
            (try rw [Exit.noGoto_ret])
            go_ret2
            refine ⟨none, 0, ?_, HT.out.2.2, ?_⟩
            · rw [HN.out]; rfl
            · rw [HN.out]; exact rowOf_nil _
          have HN : Hid (R = rawOn k (out ++ [xa]) (l.drop m)) := Lib.hid (by rw [HI3.out.says, HSAY.out, if_pos hz])
          subst hz
          obtain ⟨d0, d1, d2, d3, d4, d5, d6⟩ := HT.out.1
          obtain ⟨w9, hw9⟩ : ∃ w9, w9 = wz.alloc (.cells #[.int .i64 xa.fr, .int .i64 xa.cn, .int .i64 xa.sm, .int .i64 xa.mn, .int .i64 xa.mx, .int .i64 xa.fi, .int .i64 xa.la] 50) := ⟨_, rfl⟩
          have hB9 : Below wz.heap.size wz w9 := by rw [hw9]; exact past_alloc (Below.refl _ _) _
          have W9 := Lib.hid hw9
          have O9 : Hid (w9.ownsRow w.heap.size 50 7 u6 out.length (aggV out)) := Lib.hid (own7_below HT.out.2.1 hB9)
          have N9 : Hid (∀ j u, xa.cells[j]? = some u → w9.cell? ((⟨wz.heap.size, 0, none⟩ : Addr).add j) = some u) := Lib.hid (Holds.news (by rw [hw9]; exact Holds.new wz xa))
          have Z9 : Hid (w.heap.size ≤ w9.heap.size) := Lib.hid (Nat.le_trans HT.out.2.2.size hB9.size)
          have BB : Hid (Below w.heap.size w w9) := Lib.hid (past HT.out.2.2 hB9)
          clear hw9 hB9
          go_upto_region 12 with fail
          obtain ⟨i0', hi', hz0, hz1, hz2⟩ := info_parts Tryz.info50
          go_wp2_with (at_builtin; rw [← W9.out]; refine wpList_append_lies _ rfl _ _ 23 rfl w.heap.size 50 i0' (.agg #[.int .i64 0, .int .i64 0, .int .i64 0, .int .i64 0, .int .i64 0, .int .i64 0, .int .i64 0]) 7 56 Tryz.underlying23 hi' hz0 hz1 hz2 rfl (by decide) u6 out.length (aggV out) rfl O9.out ⟨wz.heap.size, 0, none⟩ 1 1 xa.cells rfl rfl N9.out (cells_one xa) (by decide) (by unfold maxLen; omega) (by omega) Z9.out _ rfl ?_)
          intro ga ca' wa hown hgrow hat hltg
          have HNEW : Hid (RRawInv w wa k m l (out ++ [xa]) (.slice (some ⟨ga, 0, none⟩) (out.length + 1) ca') R) := Lib.hid (by
            refine ⟨HN.out, ?_, ?_, ?_, BB.out.grown hgrow Z9.out (fun k h => (O9.out.lt k h).1)⟩
            · have := HI3.out.room
              rw [List.length_append]
              show out.length + 1 ≤ m
              omega
            · rw [aggV_append, aggV_one, List.length_append]
              exact hown
            · intro x hx
              rw [List.mem_append, List.mem_singleton] at hx
              rcases hx with hx | rfl
              · exact HI3.out.ok x hx
              · exact HXOK.out)
          clear hown hgrow hat hltg d0 d1 d2 d3 d4 d5 d6 W9 O9 N9 Z9 BB HT
          go_wp2
          go_roundw
          case rel => exact ⟨out ++ [xa], m, by omega, rfl, HNEW⟩
          case measure => simp [intOf]; omega
    · obtain ⟨A, ca, hv, hrow⟩ := rowOf_own HI.out.own HI.out.ok
      have HN : Hid (R = (out, 0)) := Lib.hid (by rw [HI.out.says, List.drop_eq_nil_of_le (by rw [HL.out]; omega), rawOn])
      have HV := Lib.hid hv
      have HROW := Lib.hid hrow
      clear hv hrow
      go_wp2
      (try rw [Exit.noGoto_ret])
      go_ret2
      refine ⟨A, ca, ?_, HI.out.below, ?_⟩
      · rw [HN.out, HV.out]; rfl
      · rw [HN.out]; exact HROW.out
end Go.Proofs.YtepancmkopifpaaGreatDoor
namespace Go.Proofs.YtepancmkopifpaaGreatDoor
open Go.RowKit
set_option linter.unusedVariables false

set_option maxRecDepth 100000 in
theorem rraw_none (A : Option Addr) (cap : Nat) (k : Int) (w : World) (hk : coarse k) : Calls Tryz.prog 39 #[.slice A 0 cap, .int .i64 k] w fun e w' => e = .returned (.tuple #[.slice none 0 0, .int .i64 0]) ∧ Below w.heap.size w w' := by
  have M1 := Lib.hid (fun w => rrising_none A cap w)
  unfold coarse at hk
  obtain ⟨k1, k3⟩ := hk
  have k1' : ¬ k < 1 := by omega
  have k3' : ¬ 3 < k := by omega
  go_enter Tryz.func39, Tryz.ntmps39
  go_wp2_with fail
  refine (M1.out _).mono ?_
  rintro e w2 ⟨rfl, hb2⟩
  have HB2 := Lib.hid hb2
  clear hb2
  go_wp2
  refine wp_loop_rounds 1 ?_
  rw [rounds_succ]
  go_wp2
  (try rw [Exit.noGoto_ret])
  go_ret2
  exact ⟨rfl, HB2.out⟩

set_option maxRecDepth 100000 in
theorem rraw_tier (A : Option Addr) (len cap : Nat) (k : Int) (w : World) (hk : ¬ coarse k) : Calls Tryz.prog 39 #[.slice A len cap, .int .i64 k] w fun e w' => e = .returned (.tuple #[.slice none 0 0, .int .i64 1]) ∧ Below w.heap.size w w' := by
  unfold coarse at hk
  by_cases h1 : k < 1
  · go_enter Tryz.func39, Tryz.ntmps39
    go_wp2
    (try rw [Exit.noGoto_ret])
    go_ret2
    exact ⟨rfl, Below.refl _ _⟩
  · have h3 : 3 < k := by omega
    go_enter Tryz.func39, Tryz.ntmps39
    go_wp2
    (try rw [Exit.noGoto_ret])
    go_ret2
    exact ⟨rfl, Below.refl _ _⟩

set_option maxRecDepth 100000 in
theorem rraw_fall {A : Option Addr} {len cap : Nat} {l : List (Int × Int)} {w : World} (k : Int) (hl : l.length = len) (hS : Samps w A l) (hc : len ≤ cap) (hm : cap ≤ maxLen) (hk : coarse k) (hr : ¬ Rise l) : Calls Tryz.prog 39 #[.slice A len cap, .int .i64 k] w fun e w' => e = .returned (.tuple #[.slice none 0 0, .int .i64 1]) ∧ Below w.heap.size w w' := by
  have m1 := rrising_any hl hS hc hm
  rw [decide_eq_false hr] at m1
  have M1 := Lib.hid m1
  unfold coarse at hk
  obtain ⟨k1, k3⟩ := hk
  have k1' : ¬ k < 1 := by omega
  have k3' : ¬ 3 < k := by omega
  clear m1 hr hl hS hc hm
  go_enter Tryz.func39, Tryz.ntmps39
  go_wp2_with fail
  refine M1.out.mono ?_
  rintro e w2 ⟨rfl, hb2⟩
  go_wp2
  (try rw [Exit.noGoto_ret])
  go_ret2
  exact ⟨rfl, hb2⟩

theorem rraw_any {A : Option Addr} {len cap : Nat} {l : List (Int × Int)} {w : World} (k : Int) (hl : l.length = len) (hS : Samps w A l) (hc : len ≤ cap) (hm : cap ≤ maxLen) (hn : len ≤ 1000) :
    Calls Tryz.prog 39 #[.slice A len cap, .int .i64 k] w (Gives w (raw l k)) := by
  unfold raw
  by_cases hco : coarse k
  · by_cases hr : Rise l
    · rw [if_pos ⟨hco, hr⟩]
      by_cases h0 : 0 < len
      · obtain ⟨b, off, rfl, hcell⟩ := hS.2 (by omega)
        exact rraw_in b off len cap l k w hl h0 hS hc hm hco hr hn
      · obtain rfl : len = 0 := by omega
        obtain rfl : l = [] := List.length_eq_zero_iff.1 hl
        rw [rawOn]
        exact (rraw_none A cap k w hco).mono fun _ _ h => gives_none h
    · rw [if_neg (fun h => hr h.2)]
      exact (rraw_fall k hl hS hc hm hco hr).mono fun _ _ h => gives_none h
  · rw [if_neg (fun h => hco h.1)]
    exact (rraw_tier A len cap k w hco).mono fun _ _ h => gives_none h
end Go.Proofs.YtepancmkopifpaaGreatDoor
namespace Go.Proofs.YtepancmkopifpaaGreatDoor
open Go.RowKit
attribute [local go_sem ↓] Go.wp_at_zero Go.wp_at_succ
set_option linter.unusedVariables false

theorem join_at {a x : Ag} {k : Int} (hk : coarse k) (hx : x.may) : join a (x.at_ k) = join a x := by
  unfold join
  have h : (a.may ∧ (x.at_ k).may ∧ a.cn + (x.at_ k).cn ≤ 1099511627776) ↔ (a.may ∧ x.may ∧ a.cn + x.cn ≤ 1099511627776) := ⟨fun h => ⟨h.1, hx, h.2.2⟩, fun h => ⟨h.1, at_may hk hx, h.2.2⟩⟩
  by_cases h1 : a.may ∧ x.may ∧ a.cn + x.cn ≤ 1099511627776
  · rw [if_pos (h.2 h1), if_pos h1]
    rfl
  · rw [if_neg (fun h2 => h1 (h.1 h2)), if_neg h1]
theorem downOn_snoc {k : Int} {out : List Ag} {a x : Ag} {r : List Ag} {y : Ag × Int} (hk : coarse k) (hx : x.may) (ha : a.fr = flr x.fr k) (hy : join a x = y) :
    downOn k (out ++ [a]) (x :: r) = if y.2 = 0 then downOn k (out ++ [y.1]) r else ([], y.2) := by
  have e : agAt (out ++ [a]) ((out ++ [a]).length - 1) = a := agAt_snoc out a
  rw [downOn_join (x := y) ⟨by simp, by rw [e]; exact ha⟩ (by rw [e, join_at hk hx]; exact hy)]
  have e2 : (out ++ [a]).set ((out ++ [a]).length - 1) y.1 = out ++ [y.1] := by simp
  rw [e2]

/-- What the document's Down holds in its loops. -/
structure RDownInv (w wr : World) (k : Int) (i : Nat) (l out : List Ag) (v : Value) (R : List Ag × Int) : Prop where
  says : R = downOn k out (l.drop i)
  room : out.length ≤ i
  fresh : i < l.length → ¬ (0 < out.length ∧ (agAt out (out.length - 1)).fr = flr (agAt l i).fr k)
  own : wr.ownsRow w.heap.size 50 7 v out.length (aggV out)
  ok : ∀ a ∈ out, a.ok
  below : Below w.heap.size w wr
structure RDownIn (w wx : World) (k : Int) (i m : Nat) (l out : List Ag) (v : Value) (R : List Ag × Int) (g8 : Nat) (a : Ag) (F : Int) : Prop where
  says : R = downOn k (out ++ [a]) (l.drop m)
  fr : a.fr = F
  aok : a.ok
  holds : Holds wx g8 a
  free : Free wx g8
  glt : w.heap.size ≤ g8
  gne : v.ownBlock ≠ some g8
  room : out.length ≤ i
  own : wx.ownsRow w.heap.size 50 7 v out.length (aggV out)
  ok : ∀ a ∈ out, a.ok
  below : Below w.heap.size w wx
theorem RDownIn.past {w wx wy : World} {k : Int} {i m : Nat} {l out : List Ag} {v : Value} {R : List Ag × Int} {g8 : Nat} {a : Ag} {F : Int} (h : RDownIn w wx k i m l out v R g8 a F) (hb : Below wx.heap.size wx wy) : RDownIn w wy k i m l out v R g8 a F :=
  ⟨h.says, h.fr, h.aok, h.holds.below hb, h.free.below h.holds.lt hb, h.glt, h.gne, h.room, own7_below h.own hb, h.ok, Go.Proofs.YtepancmkopifpaaGreatDoor.past h.below hb⟩
theorem RDownIn.set {w wx : World} {k : Int} {i m : Nat} {l out : List Ag} {v : Value} {R : List Ag × Int} {g8 : Nat} {a : Ag} {F : Int} (h : RDownIn w wx k i m l out v R g8 a F) (j : Ag) (hs : R = downOn k (out ++ [j]) (l.drop (m + 1))) (hf : j.fr = F) (hj : j.ok) :
    RDownIn w (((((((wx.setCell ⟨g8, 0, none⟩ (.int .i64 j.fr)).setCell ⟨g8, 1, none⟩ (.int .i64 j.cn)).setCell ⟨g8, 2, none⟩ (.int .i64 j.sm)).setCell ⟨g8, 3, none⟩ (.int .i64 j.mn)).setCell ⟨g8, 4, none⟩ (.int .i64 j.mx)).setCell ⟨g8, 5, none⟩ (.int .i64 j.fi)).setCell ⟨g8, 6, none⟩ (.int .i64 j.la)) k i (m + 1) l out v R g8 j F :=
  ⟨hs, hf, hj, holds_set h.holds, free_set h.free _ _ _ _ _ _ _, h.glt, h.gne, h.room,
    ownsRow_setCell_other (ownsRow_setCell_other (ownsRow_setCell_other (ownsRow_setCell_other (ownsRow_setCell_other (ownsRow_setCell_other (ownsRow_setCell_other h.own h.gne _) h.gne _) h.gne _) h.gne _) h.gne _) h.gne _) h.gne _, h.ok, below_set h.below h.glt _ _ _ _ _ _ _⟩

set_option maxRecDepth 100000 in
set_option maxHeartbeats 4000000 in
theorem rdown_in (b off n cap : Nat) (l : List Ag) (k : Int) (w : World) (hl : l.length = n) (h0 : 0 < n) (hS : Aggs w (some ⟨b, off, none⟩) l) (hc : n ≤ cap) (hm : cap ≤ maxLen) (hk : coarse k) (hr : Align l (k - 1)) (hn : n ≤ 1000) :
    Calls Tryz.prog 40 #[.slice (some ⟨b, off, none⟩) n cap, .int .i64 k] w (Gives w (downOn k [] l)) := by
  have hk64 : In64 k := by unfold coarse at hk; unfold In64; omega
  have hsub : IntKind.i64.wrap (k - 1) = k - 1 := by unfold coarse at hk; rw [IntKind.wrap_i64]; omega
  have m1 := raligned_any (w := w) (k - 1) hl hS hc hm
  rw [decide_eq_true hr] at m1
  obtain ⟨k0, hk0⟩ : ∃ k0, k - 1 = k0 := ⟨_, rfl⟩
  replace hsub : IntKind.i64.wrap (k - 1) = k0 := hsub.trans hk0
  have hk2 : 2 ≤ k := by have := hr.1; unfold coarse at this; omega
  rw [hk0] at m1
  have M1 := Lib.hid m1
  obtain ⟨R, hR⟩ : ∃ R, downOn k [] l = R := ⟨_, rfl⟩
  rw [hR]
  unfold Gives
  have HSTART : Hid (∀ wr, Below w.heap.size w wr → RDownInv w wr k 0 l [] (.slice none 0 0) R) := Lib.hid (fun wr hb => ⟨hR.symm, by simp, fun _ h => absurd h.1 (by simp), World.ownsRow_nil _ _ _ _, by simp, hb⟩)
  have HCELL : Hid (∀ j, j < n → ∀ w', Below w.heap.size w w' → HoldsAt w' b (off + j * 7) (agAt l j)) := Lib.hid (fun j hj w' hb => by
    obtain ⟨b', o', e, hcc⟩ := (hS.below hb).2 (by omega)
    injection e with e
    injection e with e1 e2
    subst e1 e2
    exact hcc j (by omega))
  have HOKS : Hid (∀ j, j < n → (agAt l j).ok ∧ (agAt l j).may) := Lib.hid (fun j hj => ⟨hS.1 _ (agg_mem (by omega)), (hr.2 j (by omega)).1⟩)
  have HL := Lib.hid hl
  have HK := Lib.hid hk
  have HK64 := Lib.hid hk64
  unfold maxLen at hm
  unfold coarse at hk
  have k2' : ¬ k < 2 := by omega
  have k3' : ¬ 3 < k := by omega
  have h0i : (0 : Int) < (n : Int) := by omega
  clear m1 hR hS hr hl hk64 hk hk0
  go_enter Tryz.func40, Tryz.ntmps40
  go_wp2_with fail
  refine M1.out.mono ?_
  rintro e w2 ⟨rfl, hb2⟩
  have HB2 := Lib.hid hb2
  clear hb2 hsub
  go_wp2
  go_loopw [6, 7] (fun so si wr => ∃ (out : List Ag) (i : Nat), i ≤ n ∧ si = .int .i64 (i : Int) ∧ Hid (RDownInv w wr k i l out so R)) (fun _ si _ => n - (intOf si).toNat)
  case atStart => exact ⟨[], 0, by omega, rfl, Lib.hid (HSTART.out _ HB2.out)⟩
  case round =>
    obtain ⟨out, i, hi, rfl, HI⟩ := hrel
    by_cases hlt : i < n
    · have i1 : (i : Int) < (n : Int) := by omega
      have i0 : (0 : Int) ≤ (i : Int) := by omega
      obtain ⟨c0, c1, c2, c3, c4, c5, c6⟩ := HCELL.out i hlt wr HI.out.below
      have hok := HOKS.out i hlt
      have hsay := HI.out.says
      rw [agg_drop (by rw [HL.out]; exact hlt), downOn_new (HI.out.fresh (by rw [HL.out]; exact hlt))] at hsay
      generalize agAt l i = a0 at c0 c1 c2 c3 c4 c5 c6 hok hsay
      have m3 := fun w' => rfloor_any a0.fr k w' hok.1.1 HK64.out
      have hat : a0.at_ k = ⟨flr a0.fr k, a0.cn, a0.sm, a0.mn, a0.mx, a0.fi, a0.la⟩ := rfl
      have haok := at_ok (k := k) hok.1
      generalize hF : flr a0.fr k = F at m3 hat
      have M3 := Lib.hid m3
      have HH3 : Hid (Holds (wr.alloc (.cells #[.int .i64 a0.fr, .int .i64 a0.cn, .int .i64 a0.sm, .int .i64 a0.mn, .int .i64 a0.mx, .int .i64 a0.fi, .int .i64 a0.la] 50)) wr.heap.size a0 ∧ Free (wr.alloc (.cells #[.int .i64 a0.fr, .int .i64 a0.cn, .int .i64 a0.sm, .int .i64 a0.mn, .int .i64 a0.mx, .int .i64 a0.fi, .int .i64 a0.la] 50)) wr.heap.size ∧ (wr.alloc (.cells #[.int .i64 a0.fr, .int .i64 a0.cn, .int .i64 a0.sm, .int .i64 a0.mn, .int .i64 a0.mx, .int .i64 a0.fi, .int .i64 a0.la] 50)).ownsRow w.heap.size 50 7 u6 out.length (aggV out) ∧ w.heap.size ≤ wr.heap.size ∧ (u6.ownBlock ≠ some wr.heap.size) ∧ Below w.heap.size w (wr.alloc (.cells #[.int .i64 a0.fr, .int .i64 a0.cn, .int .i64 a0.sm, .int .i64 a0.mn, .int .i64 a0.mx, .int .i64 a0.fi, .int .i64 a0.la] 50))) := Lib.hid (by
        refine ⟨Holds.new wr a0, ?_, own7_below HI.out.own (past_alloc (Below.refl _ _) _), HI.out.below.size, fun e => ?_, past_alloc HI.out.below _⟩
        · unfold Free
          simp
        · have := (HI.out.own.lt _ e).2
          omega)
      go_wp2_with fail
      refine (M3.out _).mono ?_
      rintro e w3 ⟨rfl, rfl⟩
      clear c0 c1 c2 c3 c4 c5 c6 M3 m3
      generalize wr.alloc (.cells #[.int .i64 a0.fr, .int .i64 a0.cn, .int .i64 a0.sm, .int .i64 a0.mn, .int .i64 a0.mx, .int .i64 a0.fi, .int .i64 a0.la] 50) = ws at *
      generalize wr.heap.size = g8 at *
      have z0 := HH3.out.1.1
      have f0 := HH3.out.2.1.1
      have hi1 : IntKind.i64.wrap ((i : Int) + 1) = (i : Int) + 1 := by rw [IntKind.wrap_i64]; omega
      go_upto_region 8 with fail
      clear z0 f0
      have HIN : Hid (RDownIn w (ws.setCell ⟨g8, 0, none⟩ (.int .i64 F)) k i (i + 1) l out u6 R g8 (a0.at_ k) F) := Lib.hid (by
        obtain ⟨⟨h0, h1, h2, h3, h4, h5, h6⟩, z2, z3, z4, z5, z6⟩ := HH3.out
        refine ⟨hsay, by rw [hat], haok, ?_, ?_, z4, z5, HI.out.room, ownsRow_setCell_other z3 z5 _, HI.out.ok, z6.setCell z4 _⟩
        · rw [hat]
          unfold Holds
          simp [go_sem, *]
        · unfold Free at z2 ⊢
          simpa using z2)
      clear HH3 hsay hat haok hok hF
      generalize ws.setCell ⟨g8, 0, none⟩ (.int .i64 F) = wz at *
      generalize a0.at_ k = a1 at HIN
      go_wp2
      go_loopw [9] (fun sn wx => ∃ (m : Nat) (a : Ag), i < m ∧ m ≤ n ∧ sn = .int .i64 (m : Int) ∧ Hid (RDownIn w wx k i m l out u6 R g8 a F)) (fun sn _ => n - (intOf sn).toNat)
      case atStart => exact ⟨i + 1, a1, by omega, by omega, by go_num, HIN⟩
      case round =>
        obtain ⟨m, a, him, hmn, rfl, HI2⟩ := hrel
        have a0' := HI2.out.holds.1
        rw [HI2.out.fr] at a0'
        have j4 : (0 : Int) ≤ (m : Int) := by omega
        by_cases hgo : m < n ∧ flr (agAt l m).fr k = F
        · obtain ⟨hm1, hm2⟩ := hgo
          have q1 : (m : Int) < (n : Int) := by omega
          have hxx := HOKS.out m hm1
          have hcx := HCELL.out m hm1
          have hdr := agg_drop (l := l) (j := m) (by rw [HL.out]; exact hm1)
          generalize agAt l m = x at hxx hcx hdr hm2
          have MM := Lib.hid (fun w' => rfloor_any x.fr k w' hxx.1.1 HK64.out)
          rw [hm2] at MM
          have hsay := HI2.out.says
          have hjk := join_ok HI2.out.aok hxx.1
          have hj0 := join_zero (a := a) (b := x)
          have m6 := fun w' => rjoin_any a x w' HI2.out.aok hxx.1
          rw [hdr, downOn_snoc HK.out hxx.2 (by rw [HI2.out.fr, hm2]) rfl] at hsay
          generalize join a x = y at hsay hjk hj0 m6
          obtain ⟨ja, jc⟩ := y
          simp only at hsay hjk hj0 m6
          unfold Ag.val at m6
          have M6 := Lib.hid m6
          have HJK := Lib.hid hjk
          have HS2 := Lib.hid hsay
          have HJF : Hid (jc = 0 → ja.fr = F) := Lib.hid (fun h => by
            have h5 := (hj0 h).2.2.2.2
            rw [h5]
            exact HI2.out.fr)
          have HCX := Lib.hid hcx
          clear hxx hcx hdr hm2 hsay hjk hj0 m6
          have cm := (HCX.out wr HI2.out.below).1
          go_upto_region 9 with fail
          go_quiet ((go_at_call 45; exact quiet_same (MM.out _)))
          have HI3 := Lib.hid (HI2.out.past (belowN wr nq))
          clear a0' cm HI2
          generalize wr.drewN nq = wy at *
          obtain ⟨d0, d1, d2, d3, d4, d5, d6⟩ := HI3.out.holds
          obtain ⟨e0, e1, e2, e3, e4, e5, e6⟩ := HCX.out wy HI3.out.below
          have HSK : Hid (∀ w', Below wy.heap.size wy w' → w'.cell? ⟨g8, 0, none⟩ = some (.int .i64 a.fr) ∧ w'.cell? ⟨g8, 1, none⟩ = some (.int .i64 a.cn) ∧ w'.cell? ⟨g8, 2, none⟩ = some (.int .i64 a.sm) ∧ w'.cell? ⟨g8, 3, none⟩ = some (.int .i64 a.mn) ∧ w'.cell? ⟨g8, 4, none⟩ = some (.int .i64 a.mx) ∧ w'.cell? ⟨g8, 5, none⟩ = some (.int .i64 a.fi) ∧ w'.cell? ⟨g8, 6, none⟩ = some (.int .i64 a.la) ∧ w'.cell? ⟨b, off + m * 7, none⟩ = some (.int .i64 x.fr) ∧ w'.cell? ⟨b, off + m * 7 + 1, none⟩ = some (.int .i64 x.cn) ∧ w'.cell? ⟨b, off + m * 7 + 2, none⟩ = some (.int .i64 x.sm) ∧ w'.cell? ⟨b, off + m * 7 + 3, none⟩ = some (.int .i64 x.mn) ∧ w'.cell? ⟨b, off + m * 7 + 4, none⟩ = some (.int .i64 x.mx) ∧ w'.cell? ⟨b, off + m * 7 + 5, none⟩ = some (.int .i64 x.fi) ∧ w'.cell? ⟨b, off + m * 7 + 6, none⟩ = some (.int .i64 x.la)) := Lib.hid (fun w' hb => by
            obtain ⟨d0, d1, d2, d3, d4, d5, d6⟩ := HI3.out.holds.below hb
            exact ⟨d0, d1, d2, d3, d4, d5, d6, HCX.out w' (past HI3.out.below hb)⟩)
          go_upto_region 10 with fail
          go_region_held3 (fun w' => w'.cell? ⟨g8, 0, none⟩ = some (.int .i64 a.fr) ∧ w'.cell? ⟨g8, 1, none⟩ = some (.int .i64 a.cn) ∧ w'.cell? ⟨g8, 2, none⟩ = some (.int .i64 a.sm) ∧ w'.cell? ⟨g8, 3, none⟩ = some (.int .i64 a.mn) ∧ w'.cell? ⟨g8, 4, none⟩ = some (.int .i64 a.mx) ∧ w'.cell? ⟨g8, 5, none⟩ = some (.int .i64 a.fi) ∧ w'.cell? ⟨g8, 6, none⟩ = some (.int .i64 a.la) ∧ w'.cell? ⟨b, off + m * 7, none⟩ = some (.int .i64 x.fr) ∧ w'.cell? ⟨b, off + m * 7 + 1, none⟩ = some (.int .i64 x.cn) ∧ w'.cell? ⟨b, off + m * 7 + 2, none⟩ = some (.int .i64 x.sm) ∧ w'.cell? ⟨b, off + m * 7 + 3, none⟩ = some (.int .i64 x.mn) ∧ w'.cell? ⟨b, off + m * 7 + 4, none⟩ = some (.int .i64 x.mx) ∧ w'.cell? ⟨b, off + m * 7 + 5, none⟩ = some (.int .i64 x.fi) ∧ w'.cell? ⟨b, off + m * 7 + 6, none⟩ = some (.int .i64 x.la))
            ((refine HSK.out _ ?_
              first
                | with_reducible exact hB
                | with_reducible exact past_alloc hB _
                | with_reducible exact below_set hB (Nat.le_refl _) _ _ _ _ _ _ _
                | exact belowN wy 1
                | exact past_alloc (belowN wy 1) _
                | exact past (past_alloc (Below.refl _ _) _) (belowN _ 1)))
            (first
              | (go_at_call 38; refine (M6.out _).mono ?_; rintro e wt ⟨rfl, hbt⟩
                 first
                   | (have hB : Below wy.heap.size wy wt := (belowN wy 1).trans hbt)
                   | (have hbt' := (belowN (wy.alloc (.cells #[.int .i64 0, .int .i64 0, .int .i64 0, .int .i64 0, .int .i64 0, .int .i64 0, .int .i64 0] 50)) 1).trans hbt
                      have hB : Below wy.heap.size wy wt := past (past_alloc (Below.refl _ _) _) hbt'
                      have hz8 : Holds wt wy.heap.size Ag.zero := (zero_new wy).1.below hbt'
                      have hf8 : Free wt wy.heap.size := (zero_new wy).2.1.below (zero_new wy).2.2 hbt'
                      unfold Ag.zero at hz8
                      obtain ⟨z0, z1, z2, z3, z4, z5, z6⟩ := hz8
                      obtain ⟨f0, f1, f2, f3, f4, f5, f6⟩ := hf8)))
          all_goals first
            | (have hk8 := z0
               have HT : Hid (RDownIn w (((((((wt.setCell ⟨wy.heap.size, 0, none⟩ (.int .i64 ja.fr)).setCell ⟨wy.heap.size, 1, none⟩ (.int .i64 ja.cn)).setCell ⟨wy.heap.size, 2, none⟩ (.int .i64 ja.sm)).setCell ⟨wy.heap.size, 3, none⟩ (.int .i64 ja.mn)).setCell ⟨wy.heap.size, 4, none⟩ (.int .i64 ja.mx)).setCell ⟨wy.heap.size, 5, none⟩ (.int .i64 ja.fi)).setCell ⟨wy.heap.size, 6, none⟩ (.int .i64 ja.la)) k i m l out u6 R g8 a F ∧ Holds (((((((wt.setCell ⟨wy.heap.size, 0, none⟩ (.int .i64 ja.fr)).setCell ⟨wy.heap.size, 1, none⟩ (.int .i64 ja.cn)).setCell ⟨wy.heap.size, 2, none⟩ (.int .i64 ja.sm)).setCell ⟨wy.heap.size, 3, none⟩ (.int .i64 ja.mn)).setCell ⟨wy.heap.size, 4, none⟩ (.int .i64 ja.mx)).setCell ⟨wy.heap.size, 5, none⟩ (.int .i64 ja.fi)).setCell ⟨wy.heap.size, 6, none⟩ (.int .i64 ja.la)) wy.heap.size ja) := Lib.hid ⟨HI3.out.past (below_set hB (Nat.le_refl _) _ _ _ _ _ _ _), holds_set (a0 := Ag.zero) ⟨z0, z1, z2, z3, z4, z5, z6⟩⟩
               clear hk8 z0 z1 z2 z3 z4 z5 z6 f0 f1 f2 f3 f4 f5 f6 hbt hbt' hB d0 d1 d2 d3 d4 d5 d6 e0 e1 e2 e3 e4 e5 e6 HSK HI3 M6
               generalize (((((((wt.setCell ⟨wy.heap.size, 0, none⟩ (.int .i64 ja.fr)).setCell ⟨wy.heap.size, 1, none⟩ (.int .i64 ja.cn)).setCell ⟨wy.heap.size, 2, none⟩ (.int .i64 ja.sm)).setCell ⟨wy.heap.size, 3, none⟩ (.int .i64 ja.mn)).setCell ⟨wy.heap.size, 4, none⟩ (.int .i64 ja.mx)).setCell ⟨wy.heap.size, 5, none⟩ (.int .i64 ja.fi)).setCell ⟨wy.heap.size, 6, none⟩ (.int .i64 ja.la)) = wq at *
               generalize wy.heap.size = g10 at *)
            | (have HT : Hid (RDownIn w (wt.alloc (.cells #[.int .i64 ja.fr, .int .i64 ja.cn, .int .i64 ja.sm, .int .i64 ja.mn, .int .i64 ja.mx, .int .i64 ja.fi, .int .i64 ja.la] 50)) k i m l out u6 R g8 a F ∧ Holds (wt.alloc (.cells #[.int .i64 ja.fr, .int .i64 ja.cn, .int .i64 ja.sm, .int .i64 ja.mn, .int .i64 ja.mx, .int .i64 ja.fi, .int .i64 ja.la] 50)) wt.heap.size ja) := Lib.hid ⟨HI3.out.past (past_alloc hB _), Holds.new wt ja⟩
               clear hbt hB d0 d1 d2 d3 d4 d5 d6 e0 e1 e2 e3 e4 e5 e6 HSK HI3 M6
               generalize (wt.alloc (.cells #[.int .i64 ja.fr, .int .i64 ja.cn, .int .i64 ja.sm, .int .i64 ja.mn, .int .i64 ja.mx, .int .i64 ja.fi, .int .i64 ja.la] 50)) = wq at *
               generalize wt.heap.size = g10 at *)
          all_goals
            by_cases hz : jc = 0
            case neg =>
              have HN : Hid (R = ([], jc)) := Lib.hid (by rw [HS2.out, if_neg hz])
              have hz' : (jc == 0) = false := by simpa using hz
              go_wp2
              (try rw [Exit.noGoto_ret])
              go_ret2
              refine ⟨none, 0, ?_, HT.out.1.below, ?_⟩
              · rw [HN.out]; rfl
              · rw [HN.out]; exact rowOf_nil _
            have HNEW := Lib.hid (HT.out.1.set ja (HS2.out.trans (if_pos hz)) (HJF.out hz) HJK.out)
            subst hz
            obtain ⟨d0, d1, d2, d3, d4, d5, d6⟩ := HT.out.2
            obtain ⟨e0, e1, e2, e3, e4, e5, e6⟩ := HT.out.1.holds
            obtain ⟨f0, f1, f2, f3, f4, f5, f6⟩ := HT.out.1.free
            clear HT
            go_wp2
            go_roundw
            case rel => exact ⟨m + 1, ja, by omega, by omega, by go_num, HNEW⟩
            case measure => simp [intOf]; omega
        have HFR : Hid (m < l.length → ¬ (0 < (out ++ [a]).length ∧ (agAt (out ++ [a]) ((out ++ [a]).length - 1)).fr = flr (agAt l m).fr k)) := Lib.hid (fun h1 h2 => by
          rw [HL.out] at h1
          rw [agAt_snoc, HI2.out.fr] at h2
          exact hgo ⟨h1, h2.2.symm⟩)
        have hrm : out.length + 1 ≤ 1000 := by have := HI2.out.room; omega
        by_cases hm1 : m < n
        case' pos =>
          have hne : (flr (agAt l m).fr k == F) = false := by simpa using fun e => hgo ⟨hm1, e⟩
          have hxx := HOKS.out m hm1
          have hcx := (HCELL.out m hm1 wr HI2.out.below).1
          generalize agAt l m = x at hxx hcx hne
          have MM := Lib.hid (fun w' => rfloor_any x.fr k w' hxx.1.1 HK64.out)
          generalize flr x.fr k = Fm at MM hne
          have q1 : (m : Int) < (n : Int) := by omega
          clear hgo hxx
          go_upto_region 9 with fail
          go_quiet ((go_at_call 45; exact quiet_same (MM.out _)))
          clear hcx
        case' neg =>
          have q1 : ¬ (m : Int) < (n : Int) := by omega
          have q2 : decide ((m : Int) < (n : Int)) = false := decide_eq_false q1
          clear hgo
          go_upto_region 9 with fail
          go_quiet (fail)
        all_goals
          have HI3 := Lib.hid (HI2.out.past (belowN wr nq))
          clear a0'
          generalize wr.drewN nq = wy at *
          obtain ⟨d0, d1, d2, d3, d4, d5, d6⟩ := HI3.out.holds
          obtain ⟨w9, hw9⟩ : ∃ w9, w9 = wy.alloc (.cells #[.int .i64 a.fr, .int .i64 a.cn, .int .i64 a.sm, .int .i64 a.mn, .int .i64 a.mx, .int .i64 a.fi, .int .i64 a.la] 50) := ⟨_, rfl⟩
          have hB9 : Below wy.heap.size wy w9 := by rw [hw9]; exact past_alloc (Below.refl _ _) _
          have W9 := Lib.hid hw9
          have O9 : Hid (w9.ownsRow w.heap.size 50 7 u6 out.length (aggV out)) := Lib.hid (own7_below HI3.out.own hB9)
          have N9 : Hid (∀ j u, a.cells[j]? = some u → w9.cell? ((⟨wy.heap.size, 0, none⟩ : Addr).add j) = some u) := Lib.hid (Holds.news (by rw [hw9]; exact Holds.new wy a))
          have Z9 : Hid (w.heap.size ≤ w9.heap.size) := Lib.hid (Nat.le_trans HI3.out.below.size hB9.size)
          have BB : Hid (Below w.heap.size w w9) := Lib.hid (past HI3.out.below hB9)
          clear hw9 hB9
          go_upto_region 15 with fail
          obtain ⟨i0', hi', hz0, hz1, hz2⟩ := info_parts Tryz.info50
          go_wp2_with (at_builtin; rw [← W9.out]; refine wpList_append_lies _ rfl _ _ 23 rfl w.heap.size 50 i0' (.agg #[.int .i64 0, .int .i64 0, .int .i64 0, .int .i64 0, .int .i64 0, .int .i64 0, .int .i64 0]) 7 56 Tryz.underlying23 hi' hz0 hz1 hz2 rfl (by decide) u6 out.length (aggV out) rfl O9.out ⟨wy.heap.size, 0, none⟩ 1 1 a.cells rfl rfl N9.out (cells_one a) (by decide) (by unfold maxLen; omega) (by omega) Z9.out _ rfl ?_)
          intro ga ca' wa hown hgrow hat hltg
          have HNEW : Hid (RDownInv w wa k m l (out ++ [a]) (.slice (some ⟨ga, 0, none⟩) (out.length + 1) ca') R) := Lib.hid (by
            refine ⟨HI3.out.says, ?_, HFR.out, ?_, ?_, BB.out.grown hgrow Z9.out (fun k h => (O9.out.lt k h).1)⟩
            · have := HI3.out.room
              rw [List.length_append]
              show out.length + 1 ≤ m
              omega
            · rw [aggV_append, aggV_one, List.length_append]
              exact hown
            · intro x hx
              rw [List.mem_append, List.mem_singleton] at hx
              rcases hx with hx | rfl
              · exact HI3.out.ok x hx
              · exact HI3.out.aok)
          clear hown hgrow hat hltg d0 d1 d2 d3 d4 d5 d6 W9 O9 N9 Z9 BB
          go_wp2
          go_roundw
          case rel => exact ⟨out ++ [a], m, by omega, rfl, HNEW⟩
          case measure => simp [intOf]; omega
    · obtain ⟨A, ca, hv, hrow⟩ := rowOf_own HI.out.own HI.out.ok
      have HN : Hid (R = (out, 0)) := Lib.hid (by rw [HI.out.says, List.drop_eq_nil_of_le (by rw [HL.out]; omega), downOn])
      have HV := Lib.hid hv
      have HROW := Lib.hid hrow
      clear hv hrow
      go_wp2
      (try rw [Exit.noGoto_ret])
      go_ret2
      refine ⟨A, ca, ?_, HI.out.below, ?_⟩
      · rw [HN.out, HV.out]; rfl
      · rw [HN.out]; exact HROW.out
end Go.Proofs.YtepancmkopifpaaGreatDoor
namespace Go.Proofs.YtepancmkopifpaaGreatDoor
open Go.RowKit
set_option linter.unusedVariables false

set_option maxRecDepth 100000 in
theorem rdown_none {A : Option Addr} {cap : Nat} {w : World} (k : Int) (hk : coarse k) (hr : coarse (k - 1)) : Calls Tryz.prog 40 #[.slice A 0 cap, .int .i64 k] w fun e w' => e = .returned (.tuple #[.slice none 0 0, .int .i64 0]) ∧ Below w.heap.size w w' := by
  have hsub : IntKind.i64.wrap (k - 1) = k - 1 := by unfold coarse at hk; rw [IntKind.wrap_i64]; omega
  have m1 := raligned_none A cap (k - 1) w hr
  have k2' : ¬ k < 2 := by unfold coarse at hr; omega
  have k3' : ¬ 3 < k := by unfold coarse at hk; omega
  obtain ⟨k1, hk1⟩ : ∃ k1, k - 1 = k1 := ⟨_, rfl⟩
  replace hsub : IntKind.i64.wrap (k - 1) = k1 := hsub.trans hk1
  rw [hk1] at m1
  have M1 := Lib.hid m1
  clear m1 hk hr hk1
  go_enter Tryz.func40, Tryz.ntmps40
  go_wp2_with fail
  refine M1.out.mono ?_
  rintro e w2 ⟨rfl, hb2⟩
  have HB2 := Lib.hid hb2
  clear hb2 hsub
  go_wp2
  refine wp_loop_rounds 1 ?_
  rw [rounds_succ]
  go_wp2
  (try rw [Exit.noGoto_ret])
  go_ret2
  exact ⟨rfl, HB2.out⟩

set_option maxRecDepth 100000 in
theorem rdown_tier (A : Option Addr) (len cap : Nat) (k : Int) (w : World) (hk : k < 2 ∨ 3 < k) : Calls Tryz.prog 40 #[.slice A len cap, .int .i64 k] w fun e w' => e = .returned (.tuple #[.slice none 0 0, .int .i64 1]) ∧ Below w.heap.size w w' := by
  by_cases h1 : k < 2
  · go_enter Tryz.func40, Tryz.ntmps40
    go_wp2
    (try rw [Exit.noGoto_ret])
    go_ret2
    exact ⟨rfl, Below.refl _ _⟩
  · have h3 : 3 < k := by omega
    go_enter Tryz.func40, Tryz.ntmps40
    go_wp2
    (try rw [Exit.noGoto_ret])
    go_ret2
    exact ⟨rfl, Below.refl _ _⟩

set_option maxRecDepth 100000 in
theorem rdown_fall {A : Option Addr} {len cap : Nat} {l : List Ag} {w : World} (k : Int) (hl : l.length = len) (hS : Aggs w A l) (hc : len ≤ cap) (hm : cap ≤ maxLen) (hk2 : 2 ≤ k) (hk3 : k ≤ 3) (hr : ¬ Align l (k - 1)) : Calls Tryz.prog 40 #[.slice A len cap, .int .i64 k] w fun e w' => e = .returned (.tuple #[.slice none 0 0, .int .i64 1]) ∧ Below w.heap.size w w' := by
  have hsub : IntKind.i64.wrap (k - 1) = k - 1 := by rw [IntKind.wrap_i64]; omega
  have m1 := raligned_any (w := w) (k - 1) hl hS hc hm
  rw [decide_eq_false hr] at m1
  have k2' : ¬ k < 2 := by omega
  have k3' : ¬ 3 < k := by omega
  obtain ⟨k1, hk1⟩ : ∃ k1, k - 1 = k1 := ⟨_, rfl⟩
  replace hsub : IntKind.i64.wrap (k - 1) = k1 := hsub.trans hk1
  rw [hk1] at m1
  have M1 := Lib.hid m1
  clear m1 hr hl hS hc hm hk1
  go_enter Tryz.func40, Tryz.ntmps40
  go_wp2_with fail
  refine M1.out.mono ?_
  rintro e w2 ⟨rfl, hb2⟩
  go_wp2
  (try rw [Exit.noGoto_ret])
  go_ret2
  exact ⟨rfl, hb2⟩

theorem rdown_any {A : Option Addr} {len cap : Nat} {l : List Ag} {w : World} (k : Int) (h : RowOf w A len cap l) (hn : len ≤ 1000) :
    Calls Tryz.prog 40 #[.slice A len cap, .int .i64 k] w (Gives w (down l k)) := by
  obtain ⟨hl, hS, hc, hm, _⟩ := h
  unfold down
  by_cases hco : coarse k ∧ Align l (k - 1)
  · rw [if_pos hco]
    obtain ⟨hk, hr⟩ := hco
    by_cases h0 : 0 < len
    · obtain ⟨b, off, rfl, hcell⟩ := hS.2 (by omega)
      exact rdown_in b off len cap l k w hl h0 hS hc hm hk hr hn
    · obtain rfl : len = 0 := by omega
      obtain rfl : l = [] := List.length_eq_zero_iff.1 hl
      rw [downOn]
      exact (rdown_none k hk hr.1).mono fun _ _ h => gives_none h
  · rw [if_neg hco]
    by_cases hk : k < 2 ∨ 3 < k
    · exact (rdown_tier A len cap k w hk).mono fun _ _ h => gives_none h
    · exact (rdown_fall k hl hS hc hm (by omega) (by omega) (fun h => hco ⟨by unfold coarse; omega, h⟩)).mono fun _ _ h => gives_none h

theorem rawOn_says {k : Int} (hk : coarse k) : ∀ (n : Nat) (l : List (Int × Int)) (out : List Ag), l.length ≤ n → l.length ≤ 1000 → Rise l → ((rawOn k out l).2 = 0 ∨ (rawOn k out l).2 = 3) ∧ (rawOn k out l).1.length ≤ out.length + l.length
  | _, [], out, _, _, _ => by rw [rawOn]; exact ⟨.inl rfl, by simp⟩
  | 0, s :: r, _, h, _, _ => absurd h (by simp)
  | n + 1, s :: r, out, hn, h1000, hr => by
    obtain ⟨c, hc⟩ : ∃ c, cnt (flr s.1 k + wid k) r = c := ⟨_, rfl⟩
    simp only [List.length_cons] at hn h1000
    have ha := all_says (flr s.1 k) (flr_begin hk (rise_head hr)) s.2 ((r.take c).map (·.2)) (by rw [List.length_map, List.length_take]; omega)
    rcases ha with ha | ha
    · rw [rawOn_cons k out s r hc ha, if_pos rfl]
      have ih := rawOn_says hk n (r.drop c) (out ++ [(Ag.one s.2 (flr s.1 k)).with ((r.take c).map (·.2))]) (by rw [List.length_drop]; omega) (by rw [List.length_drop]; omega) (rise_drop c (rise_tail hr))
      refine ⟨ih.1, ?_⟩
      have h2 := ih.2
      rw [List.length_append, List.length_drop] at h2
      simp only [List.length_cons, List.length_nil] at h2 ⊢
      omega
    · rw [rawOn_cons k out s r hc ha, if_neg (by decide)]
      exact ⟨.inr rfl, by simp⟩
theorem raw_says (l : List (Int × Int)) (k : Int) (hl : l.length ≤ 1000) : ((raw l k).2 = 0 ∨ (raw l k).2 = 1 ∨ (raw l k).2 = 3) ∧ (raw l k).1.length ≤ 1000 := by
  unfold raw
  split
  · next h =>
    have := rawOn_says h.1 l.length l [] (Nat.le_refl _) hl h.2
    refine ⟨this.1.imp id .inr, ?_⟩
    have h2 := this.2
    simp at h2
    omega
  · exact ⟨.inr (.inl rfl), by simp⟩
end Go.Proofs.YtepancmkopifpaaGreatDoor
