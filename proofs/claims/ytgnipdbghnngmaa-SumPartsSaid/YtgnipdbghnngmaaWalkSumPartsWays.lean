/-
  The walk of SumParts: it returns true, and writes nothing that was there.
-/
import Derived.Test.YtgnipdbghnngmaaMore
import Derived.Deep.RegionHeld
namespace Go.Proofs.Ytgnipdbghnngmaa.sumParts
open Go.RowKit
set_option linter.unusedVariables false

set_option maxRecDepth 100000 in
set_option maxHeartbeats 2000000 in
theorem mid (b off len0 cap0 k : Nat) (a1 : Int) (w : World) (U L R S : Nat) (hU : IntKind.u64.wrap a1 = (U : Int)) (hLz : (len0 : Int) + 1 = (L : Int)) (hkz : (U : Int) % (L : Int) = (k : Int)) (hLp : 0 < L) (hLm : L ≤ 301)
    (h300 : len0 ≤ 300) (hk0 : 0 < k) (hkl : k ≤ len0) (hkc : k < cap0) (hlc : len0 ≤ cap0) (hmx : cap0 ≤ 9223372036854775807)
    (hR : R < 4294967291) (hS : S < 4294967291)
    (HOF : Hid (∀ w', Below w.heap.size w w' → Calls Try.prog 9 #[.slice (some ⟨b, off, none⟩) len0 cap0] w' fun e w'' => e = .returned (.int .u32 (R : Int)) ∧ w' = w''))
    (HOT : Hid (∀ w', Below w.heap.size w w' → Calls Try.prog 9 #[.slice (some ⟨b, off, none⟩) k cap0] w' fun e w'' => e = .returned (.int .u32 (S : Int)) ∧ w' = w''))
    (HMO : Hid (∀ w', Below w.heap.size w w' → Calls Try.prog 11 #[.int .u32 (S : Int), .slice (some ⟨b, off + k, none⟩) (len0 - k) (cap0 - k)] w' fun e w'' => e = .returned (.int .u32 (R : Int)) ∧ w' = w'')) :
    Calls Try.prog 4 #[.slice (some ⟨b, off, none⟩) len0 cap0, .int .i64 a1] w fun e w' => e = .returned (.bool true) ∧ Below w.heap.size w w' := by
  go_enter Try.func4, Try.ntmps4
  go_wp2_with fail
  have t1 : ((R : Int) < 4294967291) = True := by simp; omega
  go_region_held (fun _ => True) (trivial)
    (first
      | (go_at_call 8; refine (told_any _).mono ?_; rintro e wt ⟨rfl, hbt⟩; have hB : Below w.heap.size w wt := (belowN w 1).trans hbt)
      | (go_at_call 9; refine (HOF.out _ hB).mono ?_; rintro e wv ⟨rfl, rfl⟩)
      | (go_at_call 9; refine (HOT.out _ hB).mono ?_; rintro e wv ⟨rfl, rfl⟩)
      | (go_at_call 11; refine (HMO.out _ hB).mono ?_; rintro e wv ⟨rfl, rfl⟩))
  all_goals
    go_wp2
    go_ret
    exact ⟨rfl, hB⟩

set_option maxRecDepth 100000 in
set_option maxHeartbeats 2000000 in
theorem whole (b off k : Nat) (a1 : Int) (w : World) (U L R : Nat) (hU : IntKind.u64.wrap a1 = (U : Int)) (hLz : (k : Int) + 1 = (L : Int)) (hkz : (U : Int) % (L : Int) = (k : Int)) (hLp : 0 < L) (hLm : L ≤ 301)
    (h300 : k ≤ 300) (hk0 : 0 < k)
    (hR : R < 4294967291)
    (HOF : Hid (∀ w', Below w.heap.size w w' → Calls Try.prog 9 #[.slice (some ⟨b, off, none⟩) k k] w' fun e w'' => e = .returned (.int .u32 (R : Int)) ∧ w' = w''))
    (HMO : Hid (∀ w', Below w.heap.size w w' → Calls Try.prog 11 #[.int .u32 (R : Int), .slice (some ⟨b, off, none⟩) 0 0] w' fun e w'' => e = .returned (.int .u32 (R : Int)) ∧ w' = w'')) :
    Calls Try.prog 4 #[.slice (some ⟨b, off, none⟩) k k, .int .i64 a1] w fun e w' => e = .returned (.bool true) ∧ Below w.heap.size w w' := by
  go_enter Try.func4, Try.ntmps4
  go_wp2_with fail
  have t1 : ((R : Int) < 4294967291) = True := by simp; omega
  go_region_held (fun _ => True) (trivial)
    (first
      | (go_at_call 8; refine (told_any _).mono ?_; rintro e wt ⟨rfl, hbt⟩; have hB : Below w.heap.size w wt := (belowN w 1).trans hbt)
      | (go_at_call 9; refine (HOF.out _ hB).mono ?_; rintro e wv ⟨rfl, rfl⟩)
      | (go_at_call 11; refine (HMO.out _ hB).mono ?_; rintro e wv ⟨rfl, rfl⟩))
  all_goals
    go_wp2
    go_ret
    exact ⟨rfl, hB⟩

set_option maxRecDepth 100000 in
set_option maxHeartbeats 2000000 in
theorem first (ad : Addr) (len0 cap0 : Nat) (a1 : Int) (w : World) (U L R S : Nat) (hU : IntKind.u64.wrap a1 = (U : Int)) (hLz : (len0 : Int) + 1 = (L : Int)) (hkz : (U : Int) % (L : Int) = (0 : Int)) (hLp : 0 < L) (hLm : L ≤ 301)
    (h300 : len0 ≤ 300) (hlc : len0 ≤ cap0) (hmx : cap0 ≤ 9223372036854775807)
    (hR : R < 4294967291) (hS : S < 4294967291)
    (HOF : Hid (∀ w', Below w.heap.size w w' → Calls Try.prog 9 #[.slice (some ad) len0 cap0] w' fun e w'' => e = .returned (.int .u32 (R : Int)) ∧ w' = w''))
    (HOT : Hid (∀ w', Below w.heap.size w w' → Calls Try.prog 9 #[.slice (some ad) 0 cap0] w' fun e w'' => e = .returned (.int .u32 (S : Int)) ∧ w' = w''))
    (HMO : Hid (∀ w', Below w.heap.size w w' → Calls Try.prog 11 #[.int .u32 (S : Int), .slice (some ad) len0 cap0] w' fun e w'' => e = .returned (.int .u32 (R : Int)) ∧ w' = w'')) :
    Calls Try.prog 4 #[.slice (some ad) len0 cap0, .int .i64 a1] w fun e w' => e = .returned (.bool true) ∧ Below w.heap.size w w' := by
  go_enter Try.func4, Try.ntmps4
  go_wp2_with fail
  have t1 : ((R : Int) < 4294967291) = True := by simp; omega
  go_region_held (fun _ => True) (trivial)
    (first
      | (go_at_call 8; refine (told_any _).mono ?_; rintro e wt ⟨rfl, hbt⟩; have hB : Below w.heap.size w wt := (belowN w 1).trans hbt)
      | (go_at_call 9; refine (HOF.out _ hB).mono ?_; rintro e wv ⟨rfl, rfl⟩)
      | (go_at_call 9; refine (HOT.out _ hB).mono ?_; rintro e wv ⟨rfl, rfl⟩)
      | (go_at_call 11; refine (HMO.out _ hB).mono ?_; rintro e wv ⟨rfl, rfl⟩))
  all_goals
    go_wp2
    go_ret
    exact ⟨rfl, hB⟩

set_option maxRecDepth 100000 in
set_option maxHeartbeats 2000000 in
theorem nought  (a1 : Int) (w : World) (U L R : Nat) (hU : IntKind.u64.wrap a1 = (U : Int)) (hLz : (0 : Int) + 1 = (L : Int)) (hkz : (U : Int) % (L : Int) = (0 : Int)) (hLp : 0 < L) (hLm : L ≤ 301)
    (hR : R < 4294967291)
    (HOF : Hid (∀ w', Below w.heap.size w w' → Calls Try.prog 9 #[.slice none 0 0] w' fun e w'' => e = .returned (.int .u32 (R : Int)) ∧ w' = w''))
    (HMO : Hid (∀ w', Below w.heap.size w w' → Calls Try.prog 11 #[.int .u32 (R : Int), .slice none 0 0] w' fun e w'' => e = .returned (.int .u32 (R : Int)) ∧ w' = w'')) :
    Calls Try.prog 4 #[.slice none 0 0, .int .i64 a1] w fun e w' => e = .returned (.bool true) ∧ Below w.heap.size w w' := by
  go_enter Try.func4, Try.ntmps4
  go_wp2_with fail
  have t1 : ((R : Int) < 4294967291) = True := by simp; omega
  go_region_held (fun _ => True) (trivial)
    (first
      | (go_at_call 8; refine (told_any _).mono ?_; rintro e wt ⟨rfl, hbt⟩; have hB : Below w.heap.size w wt := (belowN w 1).trans hbt)
      | (go_at_call 9; refine (HOF.out _ hB).mono ?_; rintro e wv ⟨rfl, rfl⟩)
      | (go_at_call 11; refine (HMO.out _ hB).mono ?_; rintro e wv ⟨rfl, rfl⟩))
  all_goals
    go_wp2
    go_ret
    exact ⟨rfl, hB⟩

end Go.Proofs.Ytgnipdbghnngmaa.sumParts
