/-
  The walk of BlockReads: it returns true, and writes nothing that was there.
-/
import Derived.Test.YtfojciolhokejaaDoorKTold
namespace Go.Proofs.YtfojciolhokejaaDoor.blockReads
open Go.RowKit
set_option linter.unusedVariables false

set_option maxRecDepth 100000 in
set_option maxHeartbeats 2000000 in
theorem walk (a0 : Option Addr) (len0 cap0 : Nat) (bs : List Nat) (k : Int) (w : World) (s0 : bs.length = len0 ∧ Bytes w a0 bs ∧ len0 ≤ cap0 ∧ cap0 ≤ maxLen) (w1 : (Lit.int .i64 k).wf = true) (hw : Wid w) :
    Calls Tryd.prog 6 #[.slice a0 len0 cap0, .int .i64 k] w fun e w' => e = .returned (.bool true) ∧ Below w.heap.size w w' := by
  obtain ⟨hl, hB, hc, hm⟩ := s0
  have hk := fits_i64 w1
  by_cases h200 : 200 < len0
  · have hi : (200 : Int) < (len0 : Int) := by omega
    go_enter Tryd.func6, Tryd.ntmps6
    go_wp2_with fail
    refine (told_any _).mono ?_
    rintro e w3 ⟨rfl, hB3⟩
    have HB3 := Lib.hid hB3
    clear hB3
    go_wp2
    go_ret
    exact ⟨rfl, HB3.out⟩
  have hi : ¬ (200 : Int) < (len0 : Int) := by omega
  have HB := Lib.hid hB
  have HWD : Hid (∀ w', Below w.heap.size w w' → Wid w') := Lib.hid (fun w' h => hw.below h)
  have M1 := Lib.hid (kget_any a0 len0 cap0 bs w hl hB hc hm)
  have HCV : Hid (∀ w', Below w.heap.size w w' → (convert 24 9 (.slice a0 len0 cap0)).run Tryd.prog w' = .ok (.string (strB bs)) w') := Lib.hid (fun w' h => conv_bytes (hB.below h) len0 cap0 hl)
  have MA : Hid (∀ w', Below w.heap.size w w' → coarse k → Calls Tryd.prog 15 #[.slice a0 len0 cap0, .int .i64 k] w' (GetAPost w' (getA (wid k) bs))) := Lib.hid (fun w' h hk => kgeta_in a0 len0 cap0 bs k w' hl (hB.below h) hc hm hk (hw.below h))
  have HPG := Lib.hid (fun l (h : getB bs = some l) => putB_getB hB.1 h)
  have HPA := Lib.hid (fun l (hk : coarse k) (h : getA (wid k) bs = some l) => putA_getA hk hB.1 h)
  have HKK := Lib.hid hk
  have HBY := Lib.hid hB.1
  clear h200 hB hw hk w1
  go_enter Tryd.func6, Tryd.ntmps6
  go_wp2_with fail
  refine M1.out.mono ?_
  intro e w2 hp
  obtain ⟨hp1, hB2⟩ := hp
  have HB2 := Lib.hid hB2
  clear hB2 M1
  rcases hg : getB bs with _ | l
  case' none =>
    rw [hg] at hp1
    simp only at hp1
    subst hp1
    clear hg
    have HB3 := HB2
    go_upto_region 8 with fail
    generalize w2 = w3 at *
  case' some =>
    rw [hg] at hp1
    obtain ⟨V, rfl, hown, hin⟩ := hp1
    obtain ⟨A3, c3, rfl, hS3, hc3, hm3⟩ := own_form hown hin
    obtain ⟨hpb, hok, _⟩ := HPG.out l hg
    have m2 := fun w (h : Samps w A3 l) => kput_res rfl h hc3 hm3 hok
    rw [hpb, hl] at m2
    have M2 := Lib.hid m2
    have HS3 := Lib.hid hS3
    clear hg hown hin hS3 hpb hok m2
    generalize l.length = n at *
    go_wp2_with fail
    refine (M2.out _ HS3.out).mono ?_
    rintro e w3 ⟨g1, cap1, rfl, hb1, hc1, hm1, _, hB3⟩
    have HB3 := Lib.hid (past HB2.out hB3)
    have cv1 := conv_bytes hb1 len0 cap1 hl
    have cv2 := HCV.out w3 HB3.out
    clear hb1 hB3
    go_upto_region 8 with fail
    clear cv1 cv2
  all_goals
    by_cases hco : coarse k
    · go_wp2_with fail
      refine (MA.out _ HB3.out hco).mono ?_
      intro e w4 hp
      obtain ⟨hp1, hB4⟩ := hp
      have HB4 := Lib.hid (past HB3.out hB4)
      clear hB4
      cases hga : getA (wid k) bs with
      | none =>
        rw [hga] at hp1
        simp only at hp1
        subst hp1
        clear hga
        go_wp2_with fail
        refine (told_any _).mono ?_
        rintro e w5 ⟨rfl, hB5⟩
        have HB5 := Lib.hid (past HB4.out hB5)
        clear hB5
        go_wp2
        go_ret
        exact ⟨rfl, HB5.out⟩
      | some la =>
        rw [hga] at hp1
        obtain ⟨V, rfl, hown, hin⟩ := hp1
        obtain ⟨A4, c4, rfl, hS4⟩ := rowOf_own hown hin
        obtain ⟨hpb, hok, _⟩ := HPA.out la hco hga
        have m4 := kputa_any k hS4.1 hS4.2.1 hS4.2.2.1 hS4.2.2.2.1 (HWD.out _ HB4.out) hok
        rw [hpb] at m4
        have M4 := Lib.hid m4
        clear hga hown hin hS4 hpb hok m4 hco
        generalize la.length = n4 at *
        go_wp2_with fail
        refine M4.out.mono ?_
        intro e w5 hp5
        obtain ⟨g2, cap2, rfl, hb2, hc2, hm2, _, hB5⟩ := hp5.res HBY.out
        rw [hl]
        have HB5 := Lib.hid (past HB4.out hB5)
        have cv1 := conv_bytes hb2 len0 cap2 hl
        have cv2 := HCV.out w5 HB5.out
        clear hb2 hB5 hp5
        generalize strB bs = S at *
        go_wp2_with fail
        refine (told_any _).mono ?_
        rintro e w6 ⟨rfl, hB6⟩
        have HB6 := Lib.hid (past HB5.out hB6)
        clear hB6 cv1 cv2
        go_wp2
        go_ret
        exact ⟨rfl, HB6.out⟩
    · have M3 := Lib.hid (fun w V => kgeta_not V k w HKK.out hco)
      clear hco
      go_wp2_with fail
      refine (M3.out _ _).mono ?_
      rintro e w4 ⟨rfl, hB4⟩
      have HB4 := Lib.hid (past HB3.out hB4)
      clear hB4
      go_wp2_with fail
      refine (told_any _).mono ?_
      rintro e w5 ⟨rfl, hB5⟩
      have HB5 := Lib.hid (past HB4.out hB5)
      clear hB5
      go_wp2
      go_ret
      exact ⟨rfl, HB5.out⟩
end Go.Proofs.YtfojciolhokejaaDoor.blockReads
