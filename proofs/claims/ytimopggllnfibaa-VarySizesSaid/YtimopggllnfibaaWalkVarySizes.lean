/-
  The walk of VarySizes: it returns true, and writes nothing that was there.
-/
import Derived.Test.YtimopggllnfibaaArgs
import Derived.Deep.RegionHeld
import Derived.Deep.QuietTactic
import Derived.BigQuiet
namespace Go.Proofs.Ytimopggllnfibaa.varySizes
open Go.RowKit

set_option maxRecDepth 100000 in
set_option maxHeartbeats 1000000 in
theorem walk (a0 : Int) (a1 : Int) (a2 : Option Addr) (len2 cap2 : Nat) (z2 : List Int) (w : World) (w0 : (Lit.int .u64 a0).wf = true) (w1 : (Lit.int .u64 a1).wf = true) (w2 : IsRow .u8 w a2 len2 cap2 z2) :
    Calls Try.prog 6 #[.int .u64 a0, .int .u64 a1, .slice a2 len2 cap2] w fun e w' => e = .returned (.bool true) ∧ Below w.heap.size w w' := by
  obtain ⟨l0, u0⟩ := fits_u64 w0
  obtain ⟨l1, u1⟩ := fits_u64 w1
  clear w0 w1
  obtain ⟨a, rfl⟩ := Int.eq_ofNat_of_zero_le l0
  obtain ⟨b, rfl⟩ := Int.eq_ofNat_of_zero_le l1
  have ha : a < 18446744073709551616 := by omega
  have hb : b < 18446744073709551616 := by omega
  clear l0 u0 l1 u1
  obtain ⟨bs, hlen, hBy, hcap, hmax⟩ := Bytes.of_row w2
  clear w2
  have HLEN := Lib.hid hlen
  have HBY := Lib.hid hBy
  have HMAX := Lib.hid hmax
  unfold maxLen at hmax
  clear hlen hBy
  have hA1 := enc_ne a
  have hB1 := enc_ne b
  have hA2 := enc_len_le ha
  have hB2 := enc_len_le hb
  by_cases hab : b < a
  · have hmn := enc_mono (Nat.le_of_lt hab)
    go_enter Try.func6, Try.ntmps6
    by_cases h12 : 12 < len2
    · go_wp2_with fail
      refine (told_any _).mono ?_
      rintro e wt ⟨rfl, hbt⟩
      go_wp2
      go_ret
      exact ⟨rfl, hbt⟩
    · rcases hD : dec 0 0 bs with _ | ⟨v, k⟩
      · go_wp2_with fail
        refine (get_y HLEN.out HBY.out hcap HMAX.out hD).mono ?_
        rintro e wt ⟨rfl, rfl⟩
        go_wp2_with fail
        go_quiet (fail)
        go_wp2_with fail
        refine (told_any _).mono ?_
        rintro e wt ⟨rfl, hbt⟩
        go_wp2_with fail
        refine (size_nat b _ hb).mono ?_
        rintro e wt2 ⟨rfl, rfl⟩
        go_wp2_with fail
        refine (size_nat a _ ha).mono ?_
        rintro e wt2 ⟨rfl, rfl⟩
        go_wp2_with fail
        refine (size_nat b _ hb).mono ?_
        rintro e wt2 ⟨rfl, rfl⟩
        go_wp2_with fail
        refine (size_nat a _ ha).mono ?_
        rintro e wt2 ⟨rfl, rfl⟩
        go_wp2_with fail
        refine (put_any b _ hb).mono ?_
        rintro e wp ⟨gp, capp, rfl, _, hbp⟩
        go_wp2_with fail
        refine (size_nat b _ hb).mono ?_
        rintro e wt2 ⟨rfl, rfl⟩
        go_wp2
        go_ret
        exact ⟨rfl, ((belowN w nq).trans (hbt.trans (hbp.mono hbt.size)))⟩
      · obtain ⟨m, e1, e2, e3, e4, e5, _⟩ := dec_only bs 0 0 v k HBY.out.1 (by decide) hD
        simp only [Nat.pow_zero, Nat.mul_one, Nat.zero_add, Nat.sub_zero] at e1 e2 e4 e5
        subst e1
        rw [HLEN.out] at e4
        go_wp2_with fail
        refine (get_z HLEN.out HBY.out hcap HMAX.out hD).mono ?_
        rintro e wt ⟨rfl, rfl⟩
        have hc1 := conv_bytes (HBY.out.take k) k cap2 (by rw [List.length_take, HLEN.out]; omega)
        rw [e5] at hc1
        have E5 := Lib.hid e5
        clear hD e5
        have j1 : (1 : Int) ≤ (k : Int) := by omega
        have j2 : (k : Int) ≤ (len2 : Int) := by omega
        have j3 : (k : Int) ≤ (cap2 : Int) := by omega
        have t1 : decide ((k : Int) < 1) = false := by simp; omega
        have t2 : decide (len2 < k) = false := by simp; omega
        go_wp2_with fail
        go_region_held (fun w' => (convert 23 9 (.slice a2 k cap2)).run Try.prog w' = .ok (.string (strB (enc v))) w')
          (first
            | exact conv_of HBY.out E5.out HLEN.out e4 ((belowN w 1).trans hbq)
            | exact conv_of HBY.out E5.out HLEN.out e4 (belowN w 1)
            | exact conv_of HBY.out E5.out HLEN.out e4 (belowN w 0))
          ((go_at_call 9; refine (put_any v _ e2).mono ?_; rintro e wq ⟨gq, capq, rfl, hoq, hbq⟩; have hc2 := conv_bytes (Bytes.own hoq (enc_byte _)).1 (enc v).length capq rfl))
        have hbw : Below w.heap.size w wq := (belowN w 1).trans hbq
        clear hc1 hc2 hbq hoq
        go_wp2_with fail
        refine (told_any _).mono ?_
        rintro e wt ⟨rfl, hbt⟩
        go_wp2_with fail
        refine (size_nat b _ hb).mono ?_
        rintro e wt2 ⟨rfl, rfl⟩
        go_wp2_with fail
        refine (size_nat a _ ha).mono ?_
        rintro e wt2 ⟨rfl, rfl⟩
        go_wp2_with fail
        refine (size_nat b _ hb).mono ?_
        rintro e wt2 ⟨rfl, rfl⟩
        go_wp2_with fail
        refine (size_nat a _ ha).mono ?_
        rintro e wt2 ⟨rfl, rfl⟩
        go_wp2_with fail
        refine (put_any b _ hb).mono ?_
        rintro e wp ⟨gp, capp, rfl, _, hbp⟩
        go_wp2_with fail
        refine (size_nat b _ hb).mono ?_
        rintro e wt2 ⟨rfl, rfl⟩
        go_wp2
        go_ret
        exact ⟨rfl, hbw.trans ((hbt.trans (hbp.mono hbt.size)).mono hbw.size)⟩
  · have hmn := enc_mono (Nat.le_of_not_lt hab)
    go_enter Try.func6, Try.ntmps6
    by_cases h12 : 12 < len2
    · go_wp2_with fail
      refine (told_any _).mono ?_
      rintro e wt ⟨rfl, hbt⟩
      go_wp2
      go_ret
      exact ⟨rfl, hbt⟩
    · rcases hD : dec 0 0 bs with _ | ⟨v, k⟩
      · go_wp2_with fail
        refine (get_y HLEN.out HBY.out hcap HMAX.out hD).mono ?_
        rintro e wt ⟨rfl, rfl⟩
        go_wp2_with fail
        go_quiet (fail)
        go_wp2_with fail
        refine (told_any _).mono ?_
        rintro e wt ⟨rfl, hbt⟩
        go_wp2_with fail
        refine (size_nat a _ ha).mono ?_
        rintro e wt2 ⟨rfl, rfl⟩
        go_wp2_with fail
        refine (size_nat b _ hb).mono ?_
        rintro e wt2 ⟨rfl, rfl⟩
        go_wp2_with fail
        refine (size_nat a _ ha).mono ?_
        rintro e wt2 ⟨rfl, rfl⟩
        go_wp2_with fail
        refine (size_nat b _ hb).mono ?_
        rintro e wt2 ⟨rfl, rfl⟩
        go_wp2_with fail
        refine (put_any a _ ha).mono ?_
        rintro e wp ⟨gp, capp, rfl, _, hbp⟩
        go_wp2_with fail
        refine (size_nat a _ ha).mono ?_
        rintro e wt2 ⟨rfl, rfl⟩
        go_wp2
        go_ret
        exact ⟨rfl, ((belowN w nq).trans (hbt.trans (hbp.mono hbt.size)))⟩
      · obtain ⟨m, e1, e2, e3, e4, e5, _⟩ := dec_only bs 0 0 v k HBY.out.1 (by decide) hD
        simp only [Nat.pow_zero, Nat.mul_one, Nat.zero_add, Nat.sub_zero] at e1 e2 e4 e5
        subst e1
        rw [HLEN.out] at e4
        go_wp2_with fail
        refine (get_z HLEN.out HBY.out hcap HMAX.out hD).mono ?_
        rintro e wt ⟨rfl, rfl⟩
        have hc1 := conv_bytes (HBY.out.take k) k cap2 (by rw [List.length_take, HLEN.out]; omega)
        rw [e5] at hc1
        have E5 := Lib.hid e5
        clear hD e5
        have j1 : (1 : Int) ≤ (k : Int) := by omega
        have j2 : (k : Int) ≤ (len2 : Int) := by omega
        have j3 : (k : Int) ≤ (cap2 : Int) := by omega
        have t1 : decide ((k : Int) < 1) = false := by simp; omega
        have t2 : decide (len2 < k) = false := by simp; omega
        go_wp2_with fail
        go_region_held (fun w' => (convert 23 9 (.slice a2 k cap2)).run Try.prog w' = .ok (.string (strB (enc v))) w')
          (first
            | exact conv_of HBY.out E5.out HLEN.out e4 ((belowN w 1).trans hbq)
            | exact conv_of HBY.out E5.out HLEN.out e4 (belowN w 1)
            | exact conv_of HBY.out E5.out HLEN.out e4 (belowN w 0))
          ((go_at_call 9; refine (put_any v _ e2).mono ?_; rintro e wq ⟨gq, capq, rfl, hoq, hbq⟩; have hc2 := conv_bytes (Bytes.own hoq (enc_byte _)).1 (enc v).length capq rfl))
        have hbw : Below w.heap.size w wq := (belowN w 1).trans hbq
        clear hc1 hc2 hbq hoq
        go_wp2_with fail
        refine (told_any _).mono ?_
        rintro e wt ⟨rfl, hbt⟩
        go_wp2_with fail
        refine (size_nat a _ ha).mono ?_
        rintro e wt2 ⟨rfl, rfl⟩
        go_wp2_with fail
        refine (size_nat b _ hb).mono ?_
        rintro e wt2 ⟨rfl, rfl⟩
        go_wp2_with fail
        refine (size_nat a _ ha).mono ?_
        rintro e wt2 ⟨rfl, rfl⟩
        go_wp2_with fail
        refine (size_nat b _ hb).mono ?_
        rintro e wt2 ⟨rfl, rfl⟩
        go_wp2_with fail
        refine (put_any a _ ha).mono ?_
        rintro e wp ⟨gp, capp, rfl, _, hbp⟩
        go_wp2_with fail
        refine (size_nat a _ ha).mono ?_
        rintro e wt2 ⟨rfl, rfl⟩
        go_wp2
        go_ret
        exact ⟨rfl, hbw.trans ((hbt.trans (hbp.mono hbt.size)).mono hbw.size)⟩
end Go.Proofs.Ytimopggllnfibaa.varySizes
