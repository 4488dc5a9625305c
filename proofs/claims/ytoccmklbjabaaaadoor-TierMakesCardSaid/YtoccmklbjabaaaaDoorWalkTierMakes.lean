/-
  The walk of TierMakes: it returns true, and writes nothing that was there.
-/
import Derived.Test.YtoccmklbjabaaaaDoorRDownAny
import Derived.Test.YtoccmklbjabaaaaDoorTMid
namespace Go.Proofs.YtoccmklbjabaaaaDoor.tierMakes
open Go.RowKit
set_option linter.unusedVariables false

set_option maxRecDepth 100000 in
set_option maxHeartbeats 1000000 in
theorem walk (a0 : Option Addr) (len0 cap0 : Nat) (l0 : List Int) (a1 : Option Addr) (len1 cap1 : Nat) (l1 : List Int) (w : World) (s0 : Ints w a0 len0 cap0 l0) (s1 : Ints w a1 len1 cap1 l1) (hw : Wid w) :
    Calls Tryd.prog 5 #[.slice a0 len0 cap0, .slice a1 len1 cap1] w fun e w' => e = .returned (.bool true) ∧ Below w.heap.size w w' := by
  have M0 := Lib.hid (rise_any 60 (by omega) s0 s1)
  have HW : Hid (∀ w', Below w.heap.size w w' → Wid w') := Lib.hid (fun w' hb => hw.below hb)
  clear hw s0 s1
  go_enter Tryd.func5, Tryd.ntmps5
  go_wp2_with fail
  refine M0.out.mono ?_
  rintro e w2 ⟨v, L, T, rfl, hI⟩
  generalize hn : min len0 60 = n at *
  have hn60 : n ≤ 60 := by omega
  obtain ⟨A, cA, hv, hc, hm⟩ := made_form hI.own
  subst hv
  obtain ⟨hS, hlb, _, hmx⟩ := samps_any hI.own hI.bits
  have HBW := Lib.hid hI.below
  have HS : Hid (∀ w', Below w2.heap.size w2 w' → Samps w' A L) := Lib.hid (fun w' hb => hS.below hb)
  have HWS : Hid (∀ w', Below w2.heap.size w2 w' → Wid w') := Lib.hid (fun w' hb => HW.out w' (past HBW.out hb))
  have hcode := rawOn_says (k := 1) (by decide) L.length L [] (Nat.le_refl _) (by omega) hI.rise
  have e1 : raw L 1 = rawOn 1 [] L := if_pos ⟨by decide, hI.rise⟩
  rw [← e1] at hcode
  have C1 : Hid (∀ w', Below w2.heap.size w2 w' → Calls Tryd.prog 11 #[.slice A n cA, .int .i64 1] w' (Gives w' (raw L 1))) := Lib.hid (fun w' hb => raw_any 1 hlb (HS.out w' hb) hc hmx (by decide) (HWS.out w' hb) (by omega))
  have C2 : Hid (∀ w', Below w2.heap.size w2 w' → Calls Tryd.prog 15 #[.slice A n cA, .int .i64 1] w' (Gives w' (raw L 1))) := Lib.hid (fun w' hb => rraw_any 1 hlb (HS.out w' hb) hc hmx (by omega))
  generalize raw L 1 = Y at *
  obtain ⟨X, E⟩ := Y
  simp only [List.length_nil, Nat.zero_add] at hcode
  obtain ⟨hE, hX⟩ := hcode
  obtain ⟨m, hm1⟩ : ∃ m, X.length = m := ⟨_, rfl⟩
  rw [hm1] at hX
  have hm60 : m ≤ 1000 := by omega
  have D1 : Hid (∀ w' B c, Below w2.heap.size w2 w' → RowOf w' B m c X → Calls Tryd.prog 12 #[.slice B m c, .int .i64 2] w' (Gives w' (down X 2))) := Lib.hid (fun w' B c hb h => down_any 2 h (by decide) (HWS.out w' hb) hm60)
  have D2 : Hid (∀ w' B c, Below w2.heap.size w2 w' → RowOf w' B m c X → Calls Tryd.prog 16 #[.slice B m c, .int .i64 2] w' (Gives w' (down X 2))) := Lib.hid (fun w' B c hb h => rdown_any 2 h hm60)
  generalize down X 2 = V at *
  obtain ⟨Q, G⟩ := V
  unfold Gives at C1 C2 D1 D2
  simp only [hm1] at C1 C2 D1 D2
  clear hI hn M0 hS hlb hmx e1 HS hm1
  go_wp2_with fail
  refine (C1.out _ (Below.refl _ _)).mono ?_
  rintro e w3 ⟨A3, c3, rfl, hb3, hr3⟩
  have HB3 := Lib.hid hb3
  have HR3 := Lib.hid hr3
  clear hb3 hr3
  go_wp2_with fail
  refine (C2.out _ HB3.out).mono ?_
  rintro e w4 ⟨A4, c4, rfl, hb4, hr4⟩
  have HB4 := Lib.hid (past HB3.out hb4)
  have HR34 := Lib.hid (HR3.out.below hb4)
  have HR4 := Lib.hid hr4
  have S1 := Lib.hid (same_any HR34.out HR4.out)
  clear hb4 hr4
  go_wp2_with fail
  refine S1.out.mono ?_
  rintro e w5 ⟨rfl, hb5⟩
  have HB5 := Lib.hid (past HB4.out hb5)
  have HR35 := Lib.hid (HR34.out.below hb5)
  have HR45 := Lib.hid (HR4.out.below hb5)
  clear hb5
  rcases hE with rfl | rfl
  · go_wp2_with fail
    refine (D1.out _ _ _ HB5.out HR35.out).mono ?_
    rintro e w6 ⟨A6, c6, rfl, hb6, hr6⟩
    have HB6 := Lib.hid (past HB5.out hb6)
    have HR46 := Lib.hid (HR45.out.below hb6)
    have HR6 := Lib.hid hr6
    clear hb6 hr6
    go_wp2_with fail
    refine (D2.out _ _ _ HB6.out HR46.out).mono ?_
    rintro e w7 ⟨A7, c7, rfl, hb7, hr7⟩
    have HB7 := Lib.hid (past HB6.out hb7)
    have HR67 := Lib.hid (HR6.out.below hb7)
    have HR7 := Lib.hid hr7
    clear hb7 hr7
    generalize Q.length = q at *
    go_wp2_with fail
    refine (told_any _ (HWS.out _ HB7.out)).mono ?_
    rintro e w8 ⟨rfl, hb8⟩
    have HB8 := Lib.hid (past HB7.out hb8)
    have S2 := Lib.hid (same_any (HR67.out.below hb8) (HR7.out.below hb8))
    clear hb8
    go_wp2_with fail
    refine S2.out.mono ?_
    rintro e w9 ⟨rfl, hb9⟩
    go_wp2
    go_ret
    exact ⟨rfl, past HBW.out (past HB8.out hb9)⟩
  · go_wp2_with fail
    refine (told_any _ (HWS.out _ HB5.out)).mono ?_
    rintro e w8 ⟨rfl, hb8⟩
    go_wp2
    go_ret
    exact ⟨rfl, past HBW.out (past HB5.out hb8)⟩
end Go.Proofs.YtoccmklbjabaaaaDoor.tierMakes
