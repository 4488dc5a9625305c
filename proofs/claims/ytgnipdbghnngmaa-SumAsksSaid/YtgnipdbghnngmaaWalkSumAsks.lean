/-
  The walk of SumAsks: it returns true, and writes nothing that was there.
-/
import Derived.Test.YtgnipdbghnngmaaMore
import Derived.Deep.RegionHeld
namespace Go.Proofs.Ytgnipdbghnngmaa.sumAsks
open Go.RowKit

set_option maxRecDepth 100000 in
set_option maxHeartbeats 2000000 in
theorem walk (a0 : Option Addr) (len0 cap0 : Nat) (z0 : List Int) (a1 : Int) (w : World) (w0 : IsRow .u8 w a0 len0 cap0 z0) (w1 : (Lit.int .u32 a1).wf = true) :
    Calls Try.prog 3 #[.slice a0 len0 cap0, .int .u32 a1] w fun e w' => e = .returned (.bool true) ∧ Below w.heap.size w w' := by
  obtain ⟨l1, u1⟩ := fits_u32 w1
  clear w1
  obtain ⟨s, rfl⟩ := Int.eq_ofNat_of_zero_le l1
  have hs : s < 4294967296 := by omega
  clear l1 u1
  obtain ⟨bs, hlen, hBy, hcap, hmax, _⟩ := Bytes.of_row w0
  clear w0
  by_cases h300 : 300 < len0
  · clear hlen hBy hmax
    go_enter Try.func3, Try.ntmps3
    go_wp2_with fail
    refine (told_any _).mono ?_
    rintro e wt ⟨rfl, hbt⟩
    go_wp2
    go_ret
    exact ⟨rfl, hbt⟩
  have hof : ∀ w', Below w.heap.size w w' → Calls Try.prog 9 #[.slice a0 len0 cap0] w' fun e w'' => e = .returned (.int .u32 (more 1 bs : Int)) ∧ w' = w'' := fun w' hb => of_any hlen (hBy.below hb) hcap hmax
  have hmo : ∀ w', Below w.heap.size w w' → Calls Try.prog 11 #[.int .u32 (s : Int), .slice a0 len0 cap0] w' fun e w'' => e = .returned (.int .u32 (more s bs : Int)) ∧ w' = w'' := fun w' hb => more_any s hlen (hBy.below hb) hcap hmax hs
  have hro : ∀ w', Calls Try.prog 10 #[.string (strB bs)] w' fun e w'' => e = .returned (.int .u32 (more 1 bs : Int)) ∧ w' = w'' := fun w' => refof_any bs w' hBy.1 (by omega)
  have hrm : ∀ w', Calls Try.prog 12 #[.int .u32 (s : Int), .string (strB bs)] w' fun e w'' => e = .returned (.int .u32 (more s bs : Int)) ∧ w' = w'' := fun w' => refmore_any s bs w' hBy.1 (by omega) hs
  have hcv : ∀ w', Below w.heap.size w w' → (convert 22 9 (.slice a0 len0 cap0)).run Try.prog w' = .ok (.string (strB bs)) w' := fun w' hb => conv_bytes (hBy.below hb) len0 cap0 hlen
  have HOF := Lib.hid hof
  have HMO := Lib.hid hmo
  have HRO := Lib.hid hro
  have HRM := Lib.hid hrm
  have HCV := Lib.hid hcv
  clear hof hmo hro hrm hcv hlen hBy hmax
  generalize more 1 bs = R at *
  generalize more s bs = S at *
  generalize strB bs = t at *
  go_enter Try.func3, Try.ntmps3
  go_wp2_with fail
  go_region_held (fun _ => True) (trivial)
    (first
      | (go_at_call 8; refine (told_any _).mono ?_; rintro e wt ⟨rfl, hbt⟩; have hB : Below w.heap.size w wt := (belowN w 1).trans hbt; have hc1 := HCV.out wt hB)
      | (go_at_call 9; refine (HOF.out _ hB).mono ?_; rintro e wv ⟨rfl, rfl⟩)
      | (go_at_call 10; refine (HRO.out _).mono ?_; rintro e wv ⟨rfl, rfl⟩)
      | (go_at_call 11; refine (HMO.out _ hB).mono ?_; rintro e wv ⟨rfl, rfl⟩)
      | (go_at_call 12; refine (HRM.out _).mono ?_; rintro e wv ⟨rfl, rfl⟩))
  all_goals
    go_wp2
    go_ret
    exact ⟨rfl, hB⟩
end Go.Proofs.Ytgnipdbghnngmaa.sumAsks
