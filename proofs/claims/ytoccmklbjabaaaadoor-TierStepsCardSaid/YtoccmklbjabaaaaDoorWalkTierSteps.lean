/-
  The walk of TierSteps: it returns true, and writes nothing that was there.
-/
import Derived.Test.YtoccmklbjabaaaaDoorTMid
namespace Go.Proofs.YtoccmklbjabaaaaDoor.tierSteps
open Go.RowKit
set_option linter.unusedVariables false

set_option maxRecDepth 100000 in
set_option maxHeartbeats 1000000 in
theorem walk (a0 : Option Addr) (len0 cap0 : Nat) (l0 : List Int) (a1 : Option Addr) (len1 cap1 : Nat) (l1 : List Int) (w : World) (s0 : Ints w a0 len0 cap0 l0) (s1 : Ints w a1 len1 cap1 l1) (hw : Wid w) :
    Calls Tryd.prog 6 #[.slice a0 len0 cap0, .slice a1 len1 cap1] w fun e w' => e = .returned (.bool true) ∧ Below w.heap.size w w' := by
  have M0 := Lib.hid (rise_any 60 (by omega) s0 s1)
  have HW : Hid (∀ w', Below w.heap.size w w' → Wid w') := Lib.hid (fun w' hb => hw.below hb)
  clear hw s0 s1
  go_enter Tryd.func6, Tryd.ntmps6
  go_wp2_with fail
  refine M0.out.mono ?_
  rintro e w2 ⟨v, L, T, rfl, hI⟩
  generalize hn : min len0 60 = n at *
  have hn60 : n ≤ 60 := by omega
  have HLEN : Hid (L.length = n) := Lib.hid hI.len
  obtain ⟨A, cA, hv, hc, hm⟩ := made_form hI.own
  subst hv
  have HI : Hid (w2.ownsRow w.heap.size 28 2 (.slice A n cA) n (sampV (mid L 0)) ∧ Below w.heap.size w w2) := Lib.hid (by rw [mid_zero]; exact ⟨hI.own, hI.below⟩)
  have HIN := Lib.hid hI.bits
  have HR := Lib.hid (rise_bils hI.rise)
  unfold maxLen at hm
  clear hI hn M0
  go_wp2
  go_loopw [6] (fun si wr => ∃ k : Nat, k ≤ n ∧ si = .int .i64 (k : Int) ∧ Hid (wr.ownsRow w.heap.size 28 2 (.slice A n cA) n (sampV (mid L k)) ∧ Below w.heap.size w wr)) (fun si _ => n - (intOf si).toNat)
  case atStart => exact ⟨0, by omega, rfl, HI⟩
  case round =>
    obtain ⟨k, hk, rfl, HI⟩ := hrel
    by_cases hlt : k < n
    · obtain ⟨g, rfl, hgb⟩ := made_some HI.out.1 (by omega)
      have hkl : k < L.length := by rw [HLEN.out]; exact hlt
      obtain ⟨hSm, hlm, hcm, hmm, _, hgl⟩ := Samps.own HI.out.1 (mid_in L HIN.out k)
      obtain ⟨b', off', e', hcs⟩ := hSm.2 (by omega)
      injection e' with e'
      injection e' with e1 e2
      subst e1 e2
      have hc1 := (hcs k (by omega)).2
      rw [mid_get L k hkl] at hc1
      have hst := HI.out.1.stored (k * 2 + 1) (.int .i64 (bil (L.getD k (0, 0)).2))
      rw [sampV_set, ← mid_succ L k (L.getD k (0, 0)).1 (L.getD k (0, 0)).2 hkl rfl] at hst
      have hz := bil_lt (L.getD k (0, 0)).2
      have hfz := HI.out.1.frozenAt (k * 2 + 1)
      have hzv : (L.getD k (0, 0)).2.tmod 1000000000 = bil (L.getD k (0, 0)).2 := rfl
      generalize (L.getD k (0, 0)).2 = v at hc1 hst hz hzv
      generalize bil v = z at hst hz hzv
      have HST : Hid ((wr.setCell ⟨g, k * 2 + 1, none⟩ (.int .i64 z)).ownsRow w.heap.size 28 2 (.slice (some ⟨g, 0, none⟩) n cA) n (sampV (mid L (k + 1))) ∧ Below w.heap.size w (wr.setCell ⟨g, k * 2 + 1, none⟩ (.int .i64 z))) := Lib.hid ⟨hst.1, HI.out.2.setCell hgb _⟩
      have i1 : (0 : Int) ≤ (k : Int) := by omega
      have i2 : (k : Int) < (n : Int) := by omega
      clear hSm hlm hcm hmm hcs hst
      simp only [Nat.zero_add] at hc1
      go_wp2
      go_roundw
      case rel => exact ⟨k + 1, by omega, by go_num, HST⟩
      case measure => simp [intOf]; omega
    · obtain rfl : k = n := by omega
      have hO := HI.out.1
      have hmid : mid L k = bils L := by rw [← HLEN.out]; exact mid_all L
      rw [hmid] at hO
      obtain ⟨hS, hlb, _, hmx⟩ := samps_any hO (in_bils HIN.out)
      have HBW := Lib.hid HI.out.2
      have hl1000 : (bils L).length ≤ 1000 := by omega
      have HS : Hid (∀ w', Below wr.heap.size wr w' → Samps w' A (bils L)) := Lib.hid (fun w' hb => hS.below hb)
      have HWS : Hid (∀ w', Below wr.heap.size wr w' → Wid w') := Lib.hid (fun w' hb => HW.out w' (past HBW.out hb))
      have hw1 := wins_length (k := 1) (by decide) hl1000 HR.out (small_bils L)
      have hw2 := wins_length (k := 2) (by decide) hl1000 HR.out (small_bils L)
      have hw3 := wins_length (k := 3) (by decide) hl1000 HR.out (small_bils L)
      have C1 : Hid (∀ w', Below wr.heap.size wr w' → Calls Tryd.prog 11 #[.slice A k cA, .int .i64 1] w' (Gives w' (wins 1 (bils L), 0))) := Lib.hid (fun w' hb => by
        have := raw_any 1 hlb (HS.out w' hb) hc hmx (by decide) (HWS.out w' hb) (by omega)
        rwa [raw_wins (by decide) hl1000 HR.out (small_bils L)] at this)
      have C2 : Hid (∀ w', Below wr.heap.size wr w' → Calls Tryd.prog 11 #[.slice A k cA, .int .i64 2] w' (Gives w' (wins 2 (bils L), 0))) := Lib.hid (fun w' hb => by
        have := raw_any 2 hlb (HS.out w' hb) hc hmx (by decide) (HWS.out w' hb) (by omega)
        rwa [raw_wins (by decide) hl1000 HR.out (small_bils L)] at this)
      have C3 : Hid (∀ w', Below wr.heap.size wr w' → Calls Tryd.prog 11 #[.slice A k cA, .int .i64 3] w' (Gives w' (wins 3 (bils L), 0))) := Lib.hid (fun w' hb => by
        have := raw_any 3 hlb (HS.out w' hb) hc hmx (by decide) (HWS.out w' hb) (by omega)
        rwa [raw_wins (by decide) hl1000 HR.out (small_bils L)] at this)
      have D2 : Hid (∀ w' B c, Below wr.heap.size wr w' → RowOf w' B (wins 1 (bils L)).length c (wins 1 (bils L)) → Calls Tryd.prog 12 #[.slice B (wins 1 (bils L)).length c, .int .i64 2] w' (Gives w' (wins 2 (bils L), 0))) := Lib.hid (fun w' B c hb h => by
        have := down_any 2 h (by decide) (HWS.out w' hb) (by omega)
        rwa [show (down (wins 1 (bils L)) 2) = (wins 2 (bils L), 0) from down_step (k := 2) (by decide) (by decide) hl1000 HR.out (small_bils L)] at this)
      have D3 : Hid (∀ w' B c, Below wr.heap.size wr w' → RowOf w' B (wins 2 (bils L)).length c (wins 2 (bils L)) → Calls Tryd.prog 12 #[.slice B (wins 2 (bils L)).length c, .int .i64 3] w' (Gives w' (wins 3 (bils L), 0))) := Lib.hid (fun w' B c hb h => by
        have := down_any 3 h (by decide) (HWS.out w' hb) (by omega)
        rwa [show (down (wins 2 (bils L)) 3) = (wins 3 (bils L), 0) from down_step (k := 3) (by decide) (by decide) hl1000 HR.out (small_bils L)] at this)
      generalize wins 1 (bils L) = X1 at *
      generalize wins 2 (bils L) = X2 at *
      generalize wins 3 (bils L) = X3 at *
      obtain ⟨n1, hn1⟩ : ∃ n1, X1.length = n1 := ⟨_, rfl⟩
      obtain ⟨n2, hn2⟩ : ∃ n2, X2.length = n2 := ⟨_, rfl⟩
      obtain ⟨n3, hn3⟩ : ∃ n3, X3.length = n3 := ⟨_, rfl⟩
      have HN1 := Lib.hid hn1
      have HN2 := Lib.hid hn2
      have HN3 := Lib.hid hn3
      unfold Gives at C1 C2 C3 D2 D3
      simp only [hn1, hn2, hn3] at C1 C2 C3 D2 D3
      clear hn1 hn2 hn3 hw1 hw2 hw3 hl1000 hO hmid hS hlb hmx HI HS HIN HR
      go_wp2_with fail
      refine (C1.out _ (Below.refl _ _)).mono ?_
      rintro e w3 ⟨A3, c3, rfl, hb3, hr3⟩
      have HB3 := Lib.hid hb3
      have HR3 := Lib.hid hr3
      clear hb3 hr3
      go_wp2_with fail
      refine (D2.out _ _ _ HB3.out HR3.out).mono ?_
      rintro e w4 ⟨A4, c4, rfl, hb4, hr4⟩
      have HB4 := Lib.hid (past HB3.out hb4)
      have HR4 := Lib.hid hr4
      clear hb4 hr4
      go_wp2_with fail
      refine (D3.out _ _ _ HB4.out HR4.out).mono ?_
      rintro e w5 ⟨A5, c5, rfl, hb5, hr5⟩
      have HB5 := Lib.hid (past HB4.out hb5)
      have HR45 := Lib.hid (HR4.out.below hb5)
      have HR5 := Lib.hid hr5
      clear hb5 hr5
      go_wp2_with fail
      refine (C2.out _ HB5.out).mono ?_
      rintro e w6 ⟨A6, c6, rfl, hb6, hr6⟩
      have HB6 := Lib.hid (past HB5.out hb6)
      have HR46 := Lib.hid (HR45.out.below hb6)
      have HR56 := Lib.hid (HR5.out.below hb6)
      have HR6 := Lib.hid hr6
      clear hb6 hr6
      go_wp2_with fail
      refine (C3.out _ HB6.out).mono ?_
      rintro e w7 ⟨A7, c7, rfl, hb7, hr7⟩
      have HB7 := Lib.hid (past HB6.out hb7)
      have HR47 := Lib.hid (HR46.out.below hb7)
      have HR57 := Lib.hid (HR56.out.below hb7)
      have HR67 := Lib.hid (HR6.out.below hb7)
      have HR7 := Lib.hid hr7
      clear hb7 hr7
      go_wp2_with fail
      refine (told_any _ (HWS.out _ HB7.out)).mono ?_
      rintro e w8 ⟨rfl, hb8⟩
      have HB8 := Lib.hid (past HB7.out hb8)
      have S1 := Lib.hid (same_any (HR47.out.below hb8) (HR67.out.below hb8))
      have HR58 := Lib.hid (HR57.out.below hb8)
      have HR78 := Lib.hid (HR7.out.below hb8)
      clear hb8
      go_wp2_with fail
      refine S1.out.mono ?_
      rintro e w9 ⟨rfl, hb9⟩
      have HB9 := Lib.hid (past HB8.out hb9)
      have S2 := Lib.hid (same_any (HR58.out.below hb9) (HR78.out.below hb9))
      clear hb9
      go_wp2_with fail
      refine S2.out.mono ?_
      rintro e w10 ⟨rfl, hb10⟩
      go_wp2
      go_ret
      exact ⟨rfl, past HBW.out (past HB9.out hb10)⟩
end Go.Proofs.YtoccmklbjabaaaaDoor.tierSteps
