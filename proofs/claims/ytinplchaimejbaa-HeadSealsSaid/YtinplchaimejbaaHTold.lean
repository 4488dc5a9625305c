/-
  What the laws ask of a few: it is told.
-/
import Derived.Test.YtinplchaimejbaaHSeal
namespace Go.Proofs.Ytinplchaimejbaa
open Go.RowKit
attribute [local go_sem ↓] Go.wp_at_zero Go.wp_at_succ
set_option linter.unusedVariables false

def l2 : List (Int × Int) := [(2, 0), (5, 0)]
def l3 : List (Int × Int) := [(2, 0), (3, 7), (5, 0)]
theorem may2 : Hd.may ⟨2, l2⟩ := by decide
theorem may3 : Hd.may ⟨2, l3⟩ := by decide
theorem may6 : Hd.may ⟨6, []⟩ := by decide
theorem tput1 {u : World} {A : Option Addr} {cap : Nat} (hr : Row u A cap l2) : Calls Try.prog 8 #[.agg #[.int .i64 2, .slice A 2 cap], .agg #[.int .i64 3, .int .i64 7]] u fun e w' => ∃ A' cap', e = .returned (.tuple #[.agg #[.int .i64 2, .slice A' 3 cap'], .int .i64 0]) ∧ Row w' A' cap' l3 ∧ Below u.heap.size u w' := by
  refine (put_any hr rfl may2 (show inT 3 by decide) (show In64 7 by decide)).mono ?_
  rintro e w' ⟨A', cap', n', rfl, hn, ho⟩
  have e1 : (putH ⟨2, l2⟩ (3, 7)).1.l = l3 := by decide
  have e0 : (putH ⟨2, l2⟩ (3, 7)).2 = 0 := by decide
  rw [e1] at hn ho
  rw [e0]
  subst hn
  exact ⟨A', cap', rfl, ho.row, ho.below⟩
theorem tput2 {u : World} {A : Option Addr} {cap : Nat} (hr : Row u A cap l2) : Calls Try.prog 8 #[.agg #[.int .i64 2, .slice A 2 cap], .agg #[.int .i64 5, .int .i64 0]] u fun e w' => ∃ A' cap' n', e = .returned (.tuple #[.agg #[.int .i64 2, .slice A' n' cap'], .int .i64 7]) ∧ Below u.heap.size u w' := by
  refine (put_any hr rfl may2 (show inT 5 by decide) (show In64 0 by decide)).mono ?_
  rintro e w' ⟨A', cap', n', rfl, hn, ho⟩
  have e0 : (putH ⟨2, l2⟩ (5, 0)).2 = 7 := by decide
  rw [e0]
  exact ⟨A', cap', n', rfl, ho.below⟩
theorem tput3 {u : World} {A : Option Addr} {cap : Nat} (hr : Row u A cap l2) : Calls Try.prog 8 #[.agg #[.int .i64 2, .slice A 2 cap], .agg #[.int .i64 1, .int .i64 0]] u fun e w' => ∃ A' cap' n', e = .returned (.tuple #[.agg #[.int .i64 2, .slice A' n' cap'], .int .i64 6]) ∧ Below u.heap.size u w' := by
  refine (put_any hr rfl may2 (show inT 1 by decide) (show In64 0 by decide)).mono ?_
  rintro e w' ⟨A', cap', n', rfl, hn, ho⟩
  have e0 : (putH ⟨2, l2⟩ (1, 0)).2 = 6 := by decide
  rw [e0]
  exact ⟨A', cap', n', rfl, ho.below⟩
theorem tseal {u : World} {A : Option Addr} {cap : Nat} (hr : Row u A cap l3) : Calls Try.prog 14 #[.agg #[.int .i64 2, .slice A 3 cap]] u fun e w' => ∃ A' cap', e = .returned (.tuple #[.agg #[.int .i64 6, .slice none 0 0], .slice A' 3 cap', .int .i64 2, .int .i64 6, .int .i64 0]) ∧ Below u.heap.size u w' := by
  refine (seal_some hr rfl (by decide) may3).mono ?_
  rintro e w' ⟨A', cap', rfl, ho⟩
  exact ⟨A', cap', rfl, ho.below⟩
theorem tseal2 (u : World) : Calls Try.prog 14 #[.agg #[.int .i64 6, .slice none 0 0]] u fun e w' => ∃ A' cap', e = .returned (.tuple #[.agg #[.int .i64 6, .slice A' 0 cap'], .slice none 0 0, .int .i64 0, .int .i64 0, .int .i64 9]) ∧ Below u.heap.size u w' := by
  refine (seal_none (Row.none u) may6).mono ?_
  rintro e w' ⟨A', cap', rfl, ho⟩
  exact ⟨A', cap', rfl, ho.below⟩
theorem dflt_may : Pol.dflt.may := by decide
theorem tdue1 {u : World} {A : Option Addr} {cap : Nat} (hr : Row u A cap l2) : Calls Try.prog 17 #[.agg #[.int .i64 2, .slice A 2 cap], .agg #[.int .i64 60, .int .i64 600, .int .i64 6000, .int .i64 0, .int .i64 8, .int .i64 30], .int .i64 31] u fun e w' => e = .returned (.bool false) ∧ Below u.heap.size u w' :=
  due_some (now := 31) hr rfl (by decide) rfl may2 dflt_may
theorem tdue2 {u : World} {A : Option Addr} {cap : Nat} (hr : Row u A cap l2) : Calls Try.prog 17 #[.agg #[.int .i64 2, .slice A 2 cap], .agg #[.int .i64 60, .int .i64 600, .int .i64 6000, .int .i64 0, .int .i64 8, .int .i64 30], .int .i64 32] u fun e w' => e = .returned (.bool true) ∧ Below u.heap.size u w' :=
  due_some (now := 32) hr rfl (by decide) rfl may2 dflt_may
theorem tmay {u : World} {A : Option Addr} {cap : Nat} (hr : Row u A cap l2) : Calls Try.prog 11 #[.agg #[.int .i64 2, .slice A 2 cap]] u fun e w' => e = .returned (.bool true) ∧ Below u.heap.size u w' := by
  have := mayH_any (show In64 2 by decide) hr rfl
  rw [decide_eq_true may2] at this
  exact this
theorem tmay3 {u : World} {A : Option Addr} {cap : Nat} (hr : Row u A cap l2) : Calls Try.prog 11 #[.agg #[.int .i64 3, .slice A 2 cap]] u fun e w' => e = .returned (.bool false) ∧ Below u.heap.size u w' := by
  have := mayH_any (show In64 3 by decide) hr rfl
  rw [show decide (Hd.may ⟨3, l2⟩) = false by decide] at this
  exact this
theorem row_l2 (w : World) : Row (w.alloc (.cells #[.int .i64 2, .int .i64 0, .int .i64 5, .int .i64 0] 30)) (some ⟨w.heap.size, 0, none⟩) 2 l2 := by
  refine ⟨⟨by decide, fun _ => ⟨_, _, rfl, fun j hj => ?_⟩⟩, Nat.le_refl _, by unfold maxLen; omega, fun e => by cases e⟩
  match j, hj with
  | 0, _ => simp [l2]
  | 1, _ => simp [l2]

/-- The variables h and a, amid. -/
structure TS (w w' : World) (gs g1 ga : Nat) (A : Option Addr) (cap : Nat) : Prop where
  r1 : Row w' (some ⟨gs, 0, none⟩) 2 l2
  v1 : HVar w' g1 (.int .i64 2) (.slice (some ⟨gs, 0, none⟩) 2 2)
  r2 : Row w' A cap l3
  v2 : HVar w' ga (.int .i64 2) (.slice A 3 cap)
  below : Below w.heap.size w w'
theorem TS.on {w w' w2 : World} {gs g1 ga : Nat} {A : Option Addr} {cap : Nat} (h : TS w w' gs g1 ga A cap) (hb : Below w'.heap.size w' w2) : TS w w2 gs g1 ga A cap := ⟨h.r1.below hb, h.v1.below hb, h.r2.below hb, h.v2.below hb, past h.below hb⟩

set_option maxRecDepth 100000 in
set_option maxHeartbeats 2000000 in
theorem told_any (w : World) : Calls Try.prog 9 #[] w fun e w' => e = .returned (.bool true) ∧ Below w.heap.size w w' := by
  have HB0 : Hid (∀ o o', Below w.heap.size w ((w.alloc o).alloc o')) := Lib.hid (past2 w)
  go_enter Try.func9, Try.ntmps9
  go_upto_region 2 with fail
  obtain ⟨w1, hw1⟩ : ∃ w1, w1 = ((w.alloc (.cells #[.int .i64 2, .int .i64 0, .int .i64 5, .int .i64 0] 30)).alloc (.cells #[.int .i64 2, .slice (some ⟨w.heap.size, 0, none⟩) 2 2] 25)) := ⟨_, rfl⟩
  have HB1 : Hid (Below w.heap.size w w1) := Lib.hid (by rw [hw1]; exact HB0.out _ _)
  have HR1 : Hid (Row w1 (some ⟨w.heap.size, 0, none⟩) 2 l2) := Lib.hid (by rw [hw1]; exact (row_l2 w).below (below_box _ _))
  have HV1 : Hid (HVar w1 (w.heap.size + 1) (.int .i64 2) (.slice (some ⟨w.heap.size, 0, none⟩) 2 2)) := Lib.hid (by
    rw [hw1]
    have := HVar.new (w.alloc (.cells #[.int .i64 2, .int .i64 0, .int .i64 5, .int .i64 0] 30)) (.int .i64 2) (.slice (some ⟨w.heap.size, 0, none⟩) 2 2) 25
    rwa [show (w.alloc (.cells #[.int .i64 2, .int .i64 0, .int .i64 5, .int .i64 0] 30)).heap.size = w.heap.size + 1 by simp] at this)
  rw [← hw1]
  clear hw1 HB0
  obtain ⟨c0, c1, f0, f1⟩ := HV1.out
  clear f0 f1
  go_wp2_with fail
  refine (tput1 HR1.out).mono ?_
  rintro e w2 ⟨A, cap, rfl, hrow, hb⟩
  have HR2 := Lib.hid hrow
  have HB2 := Lib.hid hb
  clear hrow hb c0 c1
  go_upto_region 3 with fail
  have HT3 : Hid (TS w (w2.alloc (.cells #[.int .i64 2, .slice A 3 cap] 25)) w.heap.size (w.heap.size + 1) w2.heap.size A cap) := Lib.hid (by
    have hB := past HB2.out (below_box w2 (.cells #[.int .i64 2, .slice A 3 cap] 25))
    exact ⟨HR1.out.below hB, HV1.out.below hB, HR2.out.below (below_box _ _), HVar.new _ _ _ _, past HB1.out hB⟩)
  generalize w2.alloc (.cells #[.int .i64 2, .slice A 3 cap] 25) = w3 at *
  generalize w2.heap.size = ga at *
  clear HR1 HV1 HR2 HB2 HB1
  have c0 := HT3.out.v1.c0
  have c1 := HT3.out.v1.c1
  go_wp2_with fail
  refine (tput2 HT3.out.r1).mono ?_
  rintro e w4 ⟨A4, cap4, n4, rfl, hb⟩
  have HB4 := Lib.hid hb
  clear hb c0 c1
  go_upto_region 4 with fail
  have HT5 : Hid (TS w (w4.alloc (.cells #[.int .i64 2, .slice A4 n4 cap4] 25)) w.heap.size (w.heap.size + 1) ga A cap) := Lib.hid (HT3.out.on (past HB4.out (below_box _ _)))
  generalize w4.alloc (.cells #[.int .i64 2, .slice A4 n4 cap4] 25) = w5 at *
  clear HT3 HB4
  have c0 := HT5.out.v1.c0
  have c1 := HT5.out.v1.c1
  go_wp2_with fail
  refine (tput3 HT5.out.r1).mono ?_
  rintro e w6 ⟨A6, cap6, n6, rfl, hb⟩
  have HB6 := Lib.hid hb
  clear hb c0 c1
  go_upto_region 5 with fail
  have HT7 : Hid (TS w (w6.alloc (.cells #[.int .i64 2, .slice A6 n6 cap6] 25)) w.heap.size (w.heap.size + 1) ga A cap) := Lib.hid (HT5.out.on (past HB6.out (below_box _ _)))
  generalize w6.alloc (.cells #[.int .i64 2, .slice A6 n6 cap6] 25) = w7 at *
  clear HT5 HB6
  have c0 := HT7.out.v2.c0
  have c1 := HT7.out.v2.c1
  go_wp2_with fail
  refine (tseal HT7.out.r2).mono ?_
  rintro e w8 ⟨A8, cap8, rfl, hb⟩
  have HB8 := Lib.hid hb
  clear hb c0 c1
  go_upto_region 6 with fail
  have HT9 : Hid (TS w (w8.alloc (.cells #[.int .i64 6, .slice none 0 0] 25)) w.heap.size (w.heap.size + 1) ga A cap) := Lib.hid (HT7.out.on (past HB8.out (below_box _ _)))
  have HVB : Hid (HVar (w8.alloc (.cells #[.int .i64 6, .slice none 0 0] 25)) w8.heap.size (.int .i64 6) (.slice none 0 0)) := Lib.hid (HVar.new _ _ _ _)
  generalize w8.alloc (.cells #[.int .i64 6, .slice none 0 0] 25) = w9 at *
  generalize w8.heap.size = gb at *
  clear HT7 HB8
  have c0 := HVB.out.c0
  have c1 := HVB.out.c1
  go_wp2_with fail
  refine (tseal2 _).mono ?_
  rintro e w10 ⟨A10, cap10, rfl, hb⟩
  have HB10 := Lib.hid hb
  clear hb c0 c1
  go_upto_region 7 with fail
  have HT11 : Hid (TS w (w10.alloc (.cells #[.int .i64 6, .slice A10 0 cap10] 25)) w.heap.size (w.heap.size + 1) ga A cap) := Lib.hid (HT9.out.on (past HB10.out (below_box _ _)))
  have HVB11 : Hid (HVar (w10.alloc (.cells #[.int .i64 6, .slice A10 0 cap10] 25)) gb (.int .i64 6) (.slice none 0 0)) := Lib.hid (HVB.out.below (past HB10.out (below_box _ _)))
  generalize w10.alloc (.cells #[.int .i64 6, .slice A10 0 cap10] 25) = w11 at *
  clear HT9 HB10 HVB
  go_wp2_with fail
  refine (default_any _).mono ?_
  rintro e w12 ⟨rfl, hb⟩
  unfold Pol.val Pol.dflt
  simp only
  have HB12 := Lib.hid hb
  clear hb
  go_upto_region 8 with fail
  have HT13 : Hid (TS w (w12.alloc (.cells #[.int .i64 60, .int .i64 600, .int .i64 6000, .int .i64 0, .int .i64 8, .int .i64 30] 40)) w.heap.size (w.heap.size + 1) ga A cap) := Lib.hid (HT11.out.on (past HB12.out (below_box _ _)))
  have HVB13 : Hid (HVar (w12.alloc (.cells #[.int .i64 60, .int .i64 600, .int .i64 6000, .int .i64 0, .int .i64 8, .int .i64 30] 40)) gb (.int .i64 6) (.slice none 0 0)) := Lib.hid (HVB11.out.below (past HB12.out (below_box _ _)))
  have HP13 : Hid (PVar (w12.alloc (.cells #[.int .i64 60, .int .i64 600, .int .i64 6000, .int .i64 0, .int .i64 8, .int .i64 30] 40)) w12.heap.size 60 600 6000 0 8 30) := Lib.hid (PVar.new _ _ _ _ _ _ _ _)
  generalize w12.alloc (.cells #[.int .i64 60, .int .i64 600, .int .i64 6000, .int .i64 0, .int .i64 8, .int .i64 30] 40) = w13 at *
  generalize w12.heap.size = gp at *
  clear HT11 HB12 HVB11
  obtain ⟨b, off, hA, hcell⟩ := HT13.out.r2.samps.2 (by decide)
  subst hA
  have q := (hcell 1 (by decide)).2
  rw [show (l3.getD 1 (0, 0)).2 = 7 from rfl] at q
  clear hcell
  have a0 := HT13.out.v2.c0
  have a1 := HT13.out.v2.c1
  have b0 := HVB13.out.c0
  have b1 := HVB13.out.c1
  have c0 := HT13.out.v1.c0
  have c1 := HT13.out.v1.c1
  obtain ⟨p0, p1, p2, p3, p4, p5⟩ := HP13.out
  (try simp only [List.append])
  go_wp2_with fail
  refine (tdue1 HT13.out.r1).mono ?_
  rintro e w14 ⟨rfl, hb⟩
  have HT14 := Lib.hid (HT13.out.on hb)
  have HP14 := Lib.hid (HP13.out.below hb)
  clear hb a0 a1 b0 b1 c0 c1 p0 p1 p2 p3 p4 p5 q HT13 HP13 HVB13
  have c0 := HT14.out.v1.c0
  have c1 := HT14.out.v1.c1
  obtain ⟨p0, p1, p2, p3, p4, p5⟩ := HP14.out
  go_wp2_with fail
  refine (tdue2 HT14.out.r1).mono ?_
  rintro e w15 ⟨rfl, hb⟩
  have HT15 := Lib.hid (HT14.out.on hb)
  clear hb c0 c1 p0 p1 p2 p3 p4 p5 HT14 HP14
  have c0 := HT15.out.v1.c0
  have c1 := HT15.out.v1.c1
  go_wp2_with fail
  refine (tmay HT15.out.r1).mono ?_
  rintro e w16 ⟨rfl, hb⟩
  have HT16 := Lib.hid (HT15.out.on hb)
  clear hb c0 c1 HT15
  have c0 := HT16.out.v1.c0
  have c1 := HT16.out.v1.c1
  go_wp2_with fail
  refine (tmay3 HT16.out.r1).mono ?_
  rintro e w17 ⟨rfl, hb⟩
  have HT17 := Lib.hid (HT16.out.on hb)
  clear hb c0 c1 HT16
  have c0 := HT17.out.v1.c0
  have c1 := HT17.out.v1.c1
  go_wp2_with fail
  refine (same_any HT17.out.r1 HT17.out.r1 rfl).mono ?_
  rintro e w18 ⟨rfl, hb⟩
  have HT18 := Lib.hid (HT17.out.on hb)
  clear hb c0 c1 HT17
  have c0 := HT18.out.v1.c0
  have c1 := HT18.out.v1.c1
  have a0 := HT18.out.v2.c0
  have a1 := HT18.out.v2.c1
  go_wp2_with fail
  refine (same_len (by decide) (by decide) (by decide)).mono ?_
  rintro e w19 ⟨rfl, hb⟩
  have HB19 := Lib.hid (past HT18.out.below hb)
  clear hb c0 c1 a0 a1
  go_wp2
  go_ret
  exact ⟨rfl, HB19.out⟩
end Go.Proofs.Ytinplchaimejbaa
