/-
  told: it returns true; nothing that was there is written.
-/
import Derived.Test.YtoccmklbjabaaaaDoorTDownAny
namespace Go.Proofs.YtoccmklbjabaaaaDoor
open Go.RowKit
attribute [local go_sem ↓] Go.wp_at_zero Go.wp_at_succ
set_option linter.unusedVariables false

theorem told_raw : raw [(3, 1), (4, 2), (6, 4)] 1 = ([⟨0, 2, 3, 1, 2, 1, 2⟩, ⟨5, 1, 4, 4, 4, 4, 4⟩], 0) := by
  unfold raw
  rw [if_pos (by decide), rawOn_cons 1 [] (3, 1) [(4, 2), (6, 4)] (c := 1) (x := (⟨0, 2, 3, 1, 2, 1, 2⟩, 0)) (by kernel_rfl) (by kernel_rfl), if_pos rfl]
  show rawOn 1 [⟨0, 2, 3, 1, 2, 1, 2⟩] [(6, 4)] = _
  rw [rawOn_cons 1 _ (6, 4) [] (c := 0) (x := (⟨5, 1, 4, 4, 4, 4, 4⟩, 0)) (by kernel_rfl) (by kernel_rfl), if_pos rfl]
  show rawOn 1 _ [] = _
  rw [rawOn]
  rfl
theorem told_none : raw [(3, 1), (4, 2), (6, 4)] 0 = ([], 1) := by
  unfold raw
  rw [if_neg (by decide)]
theorem told_down : down [⟨0, 2, 3, 1, 2, 1, 2⟩, ⟨5, 1, 4, 4, 4, 4, 4⟩] 2 = ([⟨0, 3, 7, 1, 4, 1, 4⟩], 0) := by
  unfold down
  rw [if_pos (by decide)]
  kernel_rfl
theorem told_not : down [⟨0, 2, 3, 1, 2, 1, 2⟩, ⟨5, 1, 4, 4, 4, 4, 4⟩] 3 = ([], 1) := by
  unfold down
  rw [if_neg (by decide)]

theorem RowOf.form {w : World} {A : Option Addr} {len cap : Nat} {l : List Ag} (h : RowOf w A len cap l) (h0 : 0 < len) : ∃ b off, A = some ⟨b, off, none⟩ ∧ ∀ w', Below w.heap.size w w' → ∀ j, j < len → HoldsAt w' b (off + j * 7) (agAt l j) := by
  obtain ⟨b, off, e, hc⟩ := h.2.1.2 (by rw [h.1]; exact h0)
  exact ⟨b, off, e, fun w' hb j hj => (hc j (by rw [h.1]; exact hj)).below hb⟩

set_option maxRecDepth 100000 in
set_option maxHeartbeats 1000000 in
theorem told_any (w : World) (hw : Wid w) : Calls Tryd.prog 10 #[] w fun e w' => e = .returned (.bool true) ∧ Below w.heap.size w w' := by
  have HW : Hid (∀ w', Below w.heap.size w w' → Wid w') := Lib.hid (fun w' hb => hw.below hb)
  have k1 : In64 1 := by decide
  have k0 : In64 0 := by decide
  have k2 : In64 2 := by decide
  have k3 : In64 3 := by decide
  have hS1 : Samps (w.alloc (.cells #[.int .i64 3, .int .i64 1, .int .i64 4, .int .i64 2, .int .i64 6, .int .i64 4] 28)) (some ⟨w.heap.size, 0, none⟩) [(3, 1), (4, 2), (6, 4)] := by
    refine ⟨fun s hs => ?_, fun _ => ⟨w.heap.size, 0, rfl, fun j hj => ?_⟩⟩
    · simp at hs
      rcases hs with rfl | rfl | rfl <;> exact ⟨by decide, by decide⟩
    · match j, hj with
      | 0, _ => simp
      | 1, _ => simp
      | 2, _ => simp
  have HS : Hid (∀ w', Below (w.alloc (.cells #[.int .i64 3, .int .i64 1, .int .i64 4, .int .i64 2, .int .i64 6, .int .i64 4] 28)).heap.size (w.alloc (.cells #[.int .i64 3, .int .i64 1, .int .i64 4, .int .i64 2, .int .i64 6, .int .i64 4] 28)) w' → Samps w' (some ⟨w.heap.size, 0, none⟩) [(3, 1), (4, 2), (6, 4)]) := Lib.hid (fun w' hb => hS1.below hb)
  have M1 : Hid (∀ w', Wid w' → Samps w' (some ⟨w.heap.size, 0, none⟩) [(3, 1), (4, 2), (6, 4)] → Calls Tryd.prog 11 #[.slice (some ⟨w.heap.size, 0, none⟩) 3 3, .int .i64 1] w' (Gives w' ([⟨0, 2, 3, 1, 2, 1, 2⟩, ⟨5, 1, 4, 4, 4, 4, 4⟩], 0))) := Lib.hid (fun w' h1 h2 => by
    rw [← told_raw]
    exact raw_any 1 rfl h2 (Nat.le_refl _) (by unfold maxLen; omega) k1 h1 (by omega))
  have M2 : Hid (∀ w', Wid w' → Samps w' (some ⟨w.heap.size, 0, none⟩) [(3, 1), (4, 2), (6, 4)] → Calls Tryd.prog 11 #[.slice (some ⟨w.heap.size, 0, none⟩) 3 3, .int .i64 0] w' (Gives w' ([], 1))) := Lib.hid (fun w' h1 h2 => by
    rw [← told_none]
    exact raw_any 0 rfl h2 (Nat.le_refl _) (by unfold maxLen; omega) k0 h1 (by omega))
  have M3 : Hid (∀ w' A cap, Wid w' → RowOf w' A 2 cap [⟨0, 2, 3, 1, 2, 1, 2⟩, ⟨5, 1, 4, 4, 4, 4, 4⟩] → Calls Tryd.prog 12 #[.slice A 2 cap, .int .i64 2] w' (Gives w' ([⟨0, 3, 7, 1, 4, 1, 4⟩], 0))) := Lib.hid (fun w' A cap h1 h2 => by
    rw [← told_down]
    exact down_any 2 h2 k2 h1 (by omega))
  have M4 : Hid (∀ w' A cap, Wid w' → RowOf w' A 2 cap [⟨0, 2, 3, 1, 2, 1, 2⟩, ⟨5, 1, 4, 4, 4, 4, 4⟩] → Calls Tryd.prog 12 #[.slice A 2 cap, .int .i64 3] w' (Gives w' ([], 1))) := Lib.hid (fun w' A cap h1 h2 => by
    rw [← told_not]
    exact down_any 3 h2 k3 h1 (by omega))
  have HB1 : Hid (Below w.heap.size w (w.alloc (.cells #[.int .i64 3, .int .i64 1, .int .i64 4, .int .i64 2, .int .i64 6, .int .i64 4] 28))) := Lib.hid (past_alloc (Below.refl _ _) _)
  clear hw hS1
  go_enter Tryd.func10, Tryd.ntmps10
  go_upto_region 2 with fail
  generalize w.alloc (.cells #[.int .i64 3, .int .i64 1, .int .i64 4, .int .i64 2, .int .i64 6, .int .i64 4] 28) = w1 at *
  go_wp2_with fail
  refine (M1.out _ (HW.out _ HB1.out) (HS.out _ (Below.refl _ _))).mono ?_
  rintro e w2 ⟨A, ca, rfl, hb2, hr2⟩
  have HB2 : Hid (Below w1.heap.size w1 w2) := Lib.hid hb2
  have HR2 : Hid (RowOf w2 A 2 ca [⟨0, 2, 3, 1, 2, 1, 2⟩, ⟨5, 1, 4, 4, 4, 4, 4⟩]) := Lib.hid hr2
  clear hb2 hr2
  go_wp2_with fail
  refine (M3.out _ _ _ (HW.out _ (past HB1.out HB2.out)) HR2.out).mono ?_
  rintro e w3 ⟨A3, ca3, rfl, hb3, hr3⟩
  have HB3 : Hid (Below w2.heap.size w2 w3) := Lib.hid hb3
  have HR3 : Hid (RowOf w3 A3 1 ca3 [⟨0, 3, 7, 1, 4, 1, 4⟩]) := Lib.hid hr3
  have HC3 : Hid (Below w1.heap.size w1 w3) := Lib.hid (past HB2.out hb3)
  clear hb3 hr3
  go_wp2_with fail
  refine (M2.out _ (HW.out _ (past HB1.out HC3.out)) (HS.out _ HC3.out)).mono ?_
  rintro e w4 ⟨A4, ca4, rfl, hb4, hr4⟩
  have HB4 : Hid (Below w3.heap.size w3 w4) := Lib.hid hb4
  have HC4 : Hid (Below w1.heap.size w1 w4) := Lib.hid (past HC3.out hb4)
  have HD4 : Hid (Below w2.heap.size w2 w4) := Lib.hid (past HB3.out hb4)
  clear hb4 hr4
  go_wp2_with fail
  refine (M4.out _ _ _ (HW.out _ (past HB1.out HC4.out)) (HR2.out.below HD4.out)).mono ?_
  rintro e w5 ⟨A5, ca5, rfl, hb5, hr5⟩
  have HC5 : Hid (Below w1.heap.size w1 w5) := Lib.hid (past HC4.out hb5)
  have HD5 : Hid (Below w2.heap.size w2 w5) := Lib.hid (past HD4.out hb5)
  have HE5 : Hid (Below w3.heap.size w3 w5) := Lib.hid (past HB4.out hb5)
  clear hb5 hr5
  obtain ⟨b, off, rfl, hc⟩ := HR2.out.form (by omega)
  obtain ⟨b3, off3, rfl, hc3⟩ := HR3.out.form (by omega)
  have c1 := (hc w5 HD5.out 0 (by omega)).2.1
  have c2 := (hc w5 HD5.out 1 (by omega)).1
  have c3 := (hc3 w5 HE5.out 0 (by omega)).2.1
  have c4 := (hc3 w5 HE5.out 0 (by omega)).2.2.1
  simp only [Nat.zero_mul, Nat.add_zero, Nat.one_mul] at c1 c2 c3 c4
  clear hc hc3
  replace c1 : w5.cell? ⟨b, off + 1, none⟩ = some (.int .i64 2) := c1
  replace c2 : w5.cell? ⟨b, off + 7, none⟩ = some (.int .i64 5) := c2
  replace c3 : w5.cell? ⟨b3, off3 + 1, none⟩ = some (.int .i64 3) := c3
  replace c4 : w5.cell? ⟨b3, off3 + 2, none⟩ = some (.int .i64 7) := c4
  have HW5 : Hid (Wid w5) := Lib.hid (HW.out _ (past HB1.out HC5.out))
  have W3 : Hid (∀ w', Wid w' → Calls Tryd.prog 18 #[.int .i64 3] w' fun e w'' => e = .returned (.int .i64 1440) ∧ w' = w'') := Lib.hid (fun w' h => by
    have := width_any 3 w' k3 h
    rwa [show wid 3 = 1440 by decide] at this)
  have W4 : Hid (∀ w', Wid w' → Calls Tryd.prog 18 #[.int .i64 4] w' fun e w'' => e = .returned (.int .i64 0) ∧ w' = w'') := Lib.hid (fun w' h => by
    have := width_any 4 w' (by decide) h
    rwa [show wid 4 = 0 by decide] at this)
  have F7 : Hid (∀ w', Wid w' → Calls Tryd.prog 20 #[.int .i64 7, .int .i64 1] w' fun e w'' => e = .returned (.int .i64 5) ∧ w' = w'') := Lib.hid (fun w' h => by
    have := floor_any 7 1 w' (by decide) k1 h
    rwa [show flr 7 1 = 5 by decide] at this)
  have FM : Hid (∀ w', Wid w' → Calls Tryd.prog 20 #[.int .i64 (-1), .int .i64 1] w' fun e w'' => e = .returned (.int .i64 (-1)) ∧ w' = w'') := Lib.hid (fun w' h => by
    have := floor_any (-1) 1 w' (by decide) k1 h
    rwa [show flr (-1) 1 = -1 by decide] at this)
  have R5 : Hid (Calls Tryd.prog 14 #[.slice (some ⟨w.heap.size, 0, none⟩) 3 3] w5 fun e w'' => e = .returned (.bool true) ∧ Below w5.heap.size w5 w'') := Lib.hid (by
    have := rising_any (len := 3) (cap := 3) rfl (HS.out _ HC5.out) (Nat.le_refl _) (by unfold maxLen; omega)
    rwa [show decide (Rise [(3, 1), (4, 2), (6, 4)]) = true by decide] at this)
  have HROW5 : Hid (RowOf w5 (some ⟨b, off, none⟩) 2 ca [⟨0, 2, 3, 1, 2, 1, 2⟩, ⟨5, 1, 4, 4, 4, 4, 4⟩]) := Lib.hid (HR2.out.below HD5.out)
  have HALL : Hid (Below w.heap.size w w5) := Lib.hid (past HB1.out HC5.out)
  clear M1 M2 M3 M4 HR2 HR3 HB2 HB3 HB4 HC3 HC4 HD4 HD5 HE5 HS HC5 HB1
  go_wp2_with fail
  refine (W3.out _ HW5.out).mono ?_
  rintro e w6 ⟨rfl, rfl⟩
  clear c1 c2 c3 c4
  go_wp2_with fail
  refine (W4.out _ HW5.out).mono ?_
  rintro e w6 ⟨rfl, rfl⟩
  go_wp2_with fail
  refine (F7.out _ HW5.out).mono ?_
  rintro e w6 ⟨rfl, rfl⟩
  go_wp2_with fail
  refine (FM.out _ HW5.out).mono ?_
  rintro e w6 ⟨rfl, rfl⟩
  go_wp2_with fail
  refine R5.out.mono ?_
  rintro e w6 ⟨rfl, hb6⟩
  have R6 : Hid (Calls Tryd.prog 14 #[.slice (some ⟨w6.heap.size, 0, none⟩) 2 2] (w6.alloc (.cells #[.int .i64 3, .int .i64 0, .int .i64 3, .int .i64 0] 28)) fun e w'' => e = .returned (.bool false) ∧ Below (w6.alloc (.cells #[.int .i64 3, .int .i64 0, .int .i64 3, .int .i64 0] 28)).heap.size (w6.alloc (.cells #[.int .i64 3, .int .i64 0, .int .i64 3, .int .i64 0] 28)) w'') := Lib.hid (by
    have := rising_any (A := some ⟨w6.heap.size, 0, none⟩) (w := w6.alloc (.cells #[.int .i64 3, .int .i64 0, .int .i64 3, .int .i64 0] 28)) (l := [(3, 0), (3, 0)]) (len := 2) (cap := 2) rfl ⟨fun s hs => by
        simp at hs
        rcases hs with rfl | rfl <;> exact ⟨by decide, by decide⟩, fun _ => ⟨w6.heap.size, 0, rfl, fun j hj => by
        match j, hj with
        | 0, _ => simp
        | 1, _ => simp⟩⟩ (Nat.le_refl _) (by unfold maxLen; omega)
    rwa [show decide (Rise [(3, 0), (3, 0)]) = false by decide] at this)
  have HB6 : Hid (Below w5.heap.size w5 (w6.alloc (.cells #[.int .i64 3, .int .i64 0, .int .i64 3, .int .i64 0] 28))) := Lib.hid (past_alloc hb6 _)
  clear hb6
  go_wp2_with fail
  refine R6.out.mono ?_
  rintro e w7 ⟨rfl, hb7⟩
  have HB7 : Hid (Below w5.heap.size w5 w7) := Lib.hid (past HB6.out hb7)
  clear hb7
  have A7 : Hid (∀ w', Below w5.heap.size w5 w' → Calls Tryd.prog 13 #[.slice (some ⟨b, off, none⟩) 2 ca, .int .i64 1] w' fun e w'' => e = .returned (.bool true) ∧ Below w'.heap.size w' w'') := Lib.hid (fun w' hb => by
    obtain ⟨h1, h2, h3, h4, _⟩ := HROW5.out.below hb
    have := aligned_any 1 h1 h2 h3 h4 k1 (HW5.out.below hb)
    rwa [show decide (Align [⟨0, 2, 3, 1, 2, 1, 2⟩, ⟨5, 1, 4, 4, 4, 4, 4⟩] 1) = true by decide] at this)
  have A8 : Hid (∀ w', Below w5.heap.size w5 w' → Calls Tryd.prog 13 #[.slice (some ⟨b, off, none⟩) 2 ca, .int .i64 2] w' fun e w'' => e = .returned (.bool false) ∧ Below w'.heap.size w' w'') := Lib.hid (fun w' hb => by
    obtain ⟨h1, h2, h3, h4, _⟩ := HROW5.out.below hb
    have := aligned_any 2 h1 h2 h3 h4 k2 (HW5.out.below hb)
    rwa [show decide (Align [⟨0, 2, 3, 1, 2, 1, 2⟩, ⟨5, 1, 4, 4, 4, 4, 4⟩] 2) = false by decide] at this)
  go_wp2_with fail
  refine (A7.out _ HB7.out).mono ?_
  rintro e w8 ⟨rfl, hb8⟩
  have HB8 : Hid (Below w5.heap.size w5 w8) := Lib.hid (past HB7.out hb8)
  clear hb8
  go_wp2_with fail
  refine (A8.out _ HB8.out).mono ?_
  rintro e w9 ⟨rfl, hb9⟩
  go_wp2
  go_ret
  exact ⟨rfl, past HALL.out (past HB8.out hb9)⟩
end Go.Proofs.YtoccmklbjabaaaaDoor
