/-
  The walk of TierAsks: it returns true, and writes nothing that was there.
-/
import Derived.Test.YtoccmklbjabaaaaDoorRDownAny
import Derived.Test.YtoccmklbjabaaaaDoorTMid
namespace Go.Proofs.YtoccmklbjabaaaaDoor.tierAsks
open Go.RowKit
set_option linter.unusedVariables false

set_option maxRecDepth 100000 in
set_option maxHeartbeats 1000000 in
theorem walk (a0 : Option Addr) (len0 cap0 : Nat) (l : List (Int × Int)) (a1 : Option Addr) (len1 cap1 : Nat) (g : List Ag) (k t : Int) (w : World)
    (s0 : l.length = len0 ∧ Samps w a0 l ∧ len0 ≤ cap0 ∧ cap0 ≤ maxLen ∧ (a0 = none → cap0 = 0)) (s1 : RowOf w a1 len1 cap1 g) (w2 : (Lit.int .i64 k).wf = true) (w3 : (Lit.int .i64 t).wf = true) (hw : Wid w) :
    Calls Tryd.prog 4 #[.slice a0 len0 cap0, .slice a1 len1 cap1, .int .i64 k, .int .i64 t] w fun e w' => e = .returned (.bool true) ∧ Below w.heap.size w w' := by
  have hk := fits_i64 w2
  have ht := fits_i64 w3
  have HWS : Hid (∀ w', Below w.heap.size w w' → Wid w') := Lib.hid (fun w' hb => hw.below hb)
  by_cases h0 : 60 < len0
  · have q0 : (60 : Int) < (len0 : Int) := by omega
    clear s0 s1 w2 w3 hw hk ht
    go_enter Tryd.func4, Tryd.ntmps4
    go_wp2_with fail
    refine (told_any _ (HWS.out _ (Below.refl _ _))).mono ?_
    rintro e wt ⟨rfl, hbt⟩
    go_wp2
    go_ret
    exact ⟨rfl, hbt⟩
  have q0 : ¬ (60 : Int) < (len0 : Int) := by omega
  by_cases h1 : 60 < len1
  · have q1 : (60 : Int) < (len1 : Int) := by omega
    clear s0 s1 w2 w3 hw hk ht
    go_enter Tryd.func4, Tryd.ntmps4
    go_wp2_with fail
    refine (told_any _ (HWS.out _ (Below.refl _ _))).mono ?_
    rintro e wt ⟨rfl, hbt⟩
    go_wp2
    go_ret
    exact ⟨rfl, hbt⟩
  have q1 : ¬ (60 : Int) < (len1 : Int) := by omega
  obtain ⟨hl, hS, hc, hm, _⟩ := s0
  have HS : Hid (∀ w', Below w.heap.size w w' → Samps w' a0 l) := Lib.hid (fun w' hb => hS.below hb)
  have HG : Hid (∀ w', Below w.heap.size w w' → RowOf w' a1 len1 cap1 g) := Lib.hid (fun w' hb => s1.below hb)
  have C1 : Hid (∀ w', Below w.heap.size w w' → Calls Tryd.prog 11 #[.slice a0 len0 cap0, .int .i64 k] w' (Gives w' (raw l k))) := Lib.hid (fun w' hb => raw_any k hl (HS.out w' hb) hc hm hk (HWS.out w' hb) (by omega))
  have C2 : Hid (∀ w', Below w.heap.size w w' → Calls Tryd.prog 15 #[.slice a0 len0 cap0, .int .i64 k] w' (Gives w' (raw l k))) := Lib.hid (fun w' hb => rraw_any k hl (HS.out w' hb) hc hm (by omega))
  have D1 : Hid (∀ w', Below w.heap.size w w' → Calls Tryd.prog 12 #[.slice a1 len1 cap1, .int .i64 k] w' (Gives w' (down g k))) := Lib.hid (fun w' hb => down_any k (HG.out w' hb) hk (HWS.out w' hb) (by omega))
  have D2 : Hid (∀ w', Below w.heap.size w w' → Calls Tryd.prog 16 #[.slice a1 len1 cap1, .int .i64 k] w' (Gives w' (down g k))) := Lib.hid (fun w' hb => rdown_any k (HG.out w' hb) (by omega))
  have E1 : Hid (∀ w', Below w.heap.size w w' → Calls Tryd.prog 18 #[.int .i64 k] w' fun e w'' => e = .returned (.int .i64 (wid k)) ∧ w' = w'') := Lib.hid (fun w' hb => width_any k w' hk (HWS.out w' hb))
  have E2 : Hid (∀ w', Calls Tryd.prog 19 #[.int .i64 k] w' fun e w'' => e = .returned (.int .i64 (wid k)) ∧ w' = w'') := Lib.hid (fun w' => rwidth_any k w' hk)
  have F1 : Hid (∀ w', Below w.heap.size w w' → Calls Tryd.prog 20 #[.int .i64 t, .int .i64 k] w' fun e w'' => e = .returned (.int .i64 (flr t k)) ∧ w' = w'') := Lib.hid (fun w' hb => floor_any t k w' ht hk (HWS.out w' hb))
  have F2 : Hid (∀ w', Calls Tryd.prog 21 #[.int .i64 t, .int .i64 k] w' fun e w'' => e = .returned (.int .i64 (flr t k)) ∧ w' = w'') := Lib.hid (fun w' => rfloor_any t k w' ht hk)
  have R1 : Hid (∀ w', Below w.heap.size w w' → Calls Tryd.prog 14 #[.slice a0 len0 cap0] w' fun e w'' => e = .returned (.bool (decide (Rise l))) ∧ Below w'.heap.size w' w'') := Lib.hid (fun w' hb => rising_any hl (HS.out w' hb) hc hm)
  have R2 : Hid (∀ w', Below w.heap.size w w' → Calls Tryd.prog 22 #[.slice a0 len0 cap0] w' fun e w'' => e = .returned (.bool (decide (Rise l))) ∧ Below w'.heap.size w' w'') := Lib.hid (fun w' hb => rrising_any hl (HS.out w' hb) hc hm)
  have A1 : Hid (∀ w', Below w.heap.size w w' → Calls Tryd.prog 13 #[.slice a1 len1 cap1, .int .i64 k] w' fun e w'' => e = .returned (.bool (decide (Align g k))) ∧ Below w'.heap.size w' w'') := Lib.hid (fun w' hb => aligned_any k (HG.out w' hb).1 (HG.out w' hb).2.1 (HG.out w' hb).2.2.1 (HG.out w' hb).2.2.2.1 hk (HWS.out w' hb))
  have A2 : Hid (∀ w', Below w.heap.size w w' → Calls Tryd.prog 23 #[.slice a1 len1 cap1, .int .i64 k] w' fun e w'' => e = .returned (.bool (decide (Align g k))) ∧ Below w'.heap.size w' w'') := Lib.hid (fun w' hb => raligned_any k (HG.out w' hb).1 (HG.out w' hb).2.1 (HG.out w' hb).2.2.1 (HG.out w' hb).2.2.2.1)
  generalize raw l k = Y at *
  obtain ⟨X, E⟩ := Y
  generalize down g k = V at *
  obtain ⟨Q, G⟩ := V
  generalize wid k = N1 at *
  generalize flr t k = N2 at *
  generalize decide (Rise l) = B1 at *
  generalize decide (Align g k) = B2 at *
  unfold Gives at C1 C2 D1 D2
  simp only at C1 C2 D1 D2
  generalize hx1 : X.length = x at *
  generalize hq1 : Q.length = q at *
  clear hl hS hc hm s1 w2 w3 hw hk ht HS HG hx1 hq1
  go_enter Tryd.func4, Tryd.ntmps4
  go_wp2_with fail
  refine (C1.out _ (Below.refl _ _)).mono ?_
  rintro e w3 ⟨A3, c3, rfl, hb3, hr3⟩
  have HB3 := Lib.hid hb3
  have HR3 := Lib.hid hr3
  clear hb3 hr3
  go_wp2_with fail
  refine (C2.out _ HB3.out).mono ?_
  rintro e w4 ⟨A4, c4, rfl, hb4, hr4⟩
  have HB4 := Lib.hid (past HB3.out hb4)
  have HR34 := Lib.hid (HR3.out.below hb4)
  have HR4 := Lib.hid hr4
  clear hb4 hr4
  go_wp2_with fail
  refine (D1.out _ HB4.out).mono ?_
  rintro e w5 ⟨A5, c5, rfl, hb5, hr5⟩
  have HB5 := Lib.hid (past HB4.out hb5)
  have HR35 := Lib.hid (HR34.out.below hb5)
  have HR45 := Lib.hid (HR4.out.below hb5)
  have HR5 := Lib.hid hr5
  clear hb5 hr5
  go_wp2_with fail
  refine (D2.out _ HB5.out).mono ?_
  rintro e w6 ⟨A6, c6, rfl, hb6, hr6⟩
  have HB6 := Lib.hid (past HB5.out hb6)
  have HR36 := Lib.hid (HR35.out.below hb6)
  have HR46 := Lib.hid (HR45.out.below hb6)
  have HR56 := Lib.hid (HR5.out.below hb6)
  have HR6 := Lib.hid hr6
  clear hb6 hr6
  go_wp2_with fail
  refine (told_any _ (HWS.out _ HB6.out)).mono ?_
  rintro e w7 ⟨rfl, hb7⟩
  have HB7 := Lib.hid (past HB6.out hb7)
  have S1 := Lib.hid (same_any (HR36.out.below hb7) (HR46.out.below hb7))
  have HR57 := Lib.hid (HR56.out.below hb7)
  have HR67 := Lib.hid (HR6.out.below hb7)
  clear hb7
  go_wp2_with fail
  refine S1.out.mono ?_
  rintro e w8 ⟨rfl, hb8⟩
  have HB8 := Lib.hid (past HB7.out hb8)
  have S2 := Lib.hid (same_any (HR57.out.below hb8) (HR67.out.below hb8))
  clear hb8
  go_wp2_with fail
  refine S2.out.mono ?_
  rintro e w9 ⟨rfl, hb9⟩
  have HB9 := Lib.hid (past HB8.out hb9)
  clear hb9
  go_wp2_with fail
  refine (E1.out _ HB9.out).mono ?_
  rintro e w10 ⟨rfl, rfl⟩
  go_wp2_with fail
  refine (E2.out _).mono ?_
  rintro e w10 ⟨rfl, rfl⟩
  go_wp2_with fail
  refine (F1.out _ HB9.out).mono ?_
  rintro e w10 ⟨rfl, rfl⟩
  go_wp2_with fail
  refine (F2.out _).mono ?_
  rintro e w10 ⟨rfl, rfl⟩
  go_wp2_with fail
  refine (R1.out _ HB9.out).mono ?_
  rintro e w10 ⟨rfl, hb10⟩
  have HB10 := Lib.hid (past HB9.out hb10)
  clear hb10
  go_wp2_with fail
  refine (R2.out _ HB10.out).mono ?_
  rintro e w11 ⟨rfl, hb11⟩
  have HB11 := Lib.hid (past HB10.out hb11)
  clear hb11
  go_wp2_with fail
  refine (A1.out _ HB11.out).mono ?_
  rintro e w12 ⟨rfl, hb12⟩
  have HB12 := Lib.hid (past HB11.out hb12)
  clear hb12
  go_wp2_with fail
  refine (A2.out _ HB12.out).mono ?_
  rintro e w13 ⟨rfl, hb13⟩
  go_wp2
  go_ret
  exact ⟨rfl, past HB12.out hb13⟩
end Go.Proofs.YtoccmklbjabaaaaDoor.tierAsks
