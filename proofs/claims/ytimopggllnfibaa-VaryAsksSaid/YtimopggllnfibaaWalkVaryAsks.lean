/-
  The walk of VaryAsks: it returns true, and writes nothing that was there.
-/
import Derived.Test.YtimopggllnfibaaRef
import Derived.Test.YtimopggllnfibaaRefGet
import Derived.Deep.RegionHeld
namespace Go.Proofs.Ytimopggllnfibaa.varyAsks
open Go.RowKit

theorem both_get {w : World} {A : Option Addr} {len cap : Nat} {bs : List Nat} (hl : bs.length = len) (hB : Bytes w A bs) (hc : len ≤ cap) (hm : cap ≤ maxLen) (h40 : len ≤ 40) (p : Int) :
    ∃ x k e : Int, Calls Try.prog 11 #[.slice A len cap, .int .i64 p] w (fun r w' => r = .returned (.tuple #[.int .u64 x, .int .i64 k, .int .i64 e]) ∧ w = w') ∧
      Calls Try.prog 12 #[.string (strB bs), .int .i64 p] w (fun r w' => r = .returned (.tuple #[.int .u64 x, .int .i64 k, .int .i64 e]) ∧ w = w') := by
  by_cases hneg : p < 0
  · exact ⟨0, p, 1, get_neg A len cap p w hneg, refget_neg _ p w hneg⟩
  by_cases hfar : (len : Int) < p
  · exact ⟨0, p, 1, get_far A len cap p w (by omega) hfar, refget_far _ p w (by omega) (by rw [strB_size, hl]; exact hfar)⟩
  obtain ⟨q, rfl⟩ := Int.eq_ofNat_of_zero_le (show 0 ≤ p by omega)
  have h1 := get_nat A len cap bs q w hl hB hc hm (by omega)
  have h2 := refget_nat (strB bs) bs q w (strB_size bs) hB.1 (by rw [strB_size]; omega) (by rw [strB_size]; omega) (strB_get bs hB.1)
  rcases hd : dec 0 0 (bs.drop q) with _ | ⟨v, k⟩
  · rw [hd] at h1 h2
    exact ⟨0, q, 2, h1, h2⟩
  · rw [hd] at h1 h2
    exact ⟨v, (q + k : Nat), 0, h1, h2⟩

set_option maxRecDepth 100000 in
set_option maxHeartbeats 2000000 in
theorem walk (a0 : Int) (a1 : Int) (a2 : Option Addr) (len2 cap2 : Nat) (z2 : List Int) (a3 : Int) (w : World) (w0 : (Lit.int .u64 a0).wf = true) (w1 : (Lit.int .i64 a1).wf = true) (w2 : IsRow .u8 w a2 len2 cap2 z2) (_w3 : (Lit.int .i64 a3).wf = true) :
    Calls Try.prog 4 #[.int .u64 a0, .int .i64 a1, .slice a2 len2 cap2, .int .i64 a3] w fun e w' => e = .returned (.bool true) ∧ Below w.heap.size w w' := by
  obtain ⟨l0, u0⟩ := fits_u64 w0
  obtain ⟨l1, u1⟩ := fits_i64 w1
  clear w0 w1
  obtain ⟨n, rfl⟩ := Int.eq_ofNat_of_zero_le l0
  have hn : n < 18446744073709551616 := by omega
  obtain ⟨bs, hlen, hBy, hcap, hmax⟩ := Bytes.of_row w2
  clear w2
  by_cases h40 : 40 < len2
  · go_enter Try.func4, Try.ntmps4
    go_wp2_with fail
    refine (told_any _).mono ?_
    rintro e wt ⟨rfl, hbt⟩
    go_wp2
    go_ret
    exact ⟨rfl, hbt⟩
  obtain ⟨x, k, er, hg1, hg2⟩ := both_get hlen hBy hcap hmax (by omega) a3
  have hcv := conv_bytes hBy len2 cap2 hlen
  have HG1 := Lib.hid hg1
  have HG2 := Lib.hid hg2
  have hstr := strB_size (enc n)
  clear hg1 hg2 hlen hBy hmax
  go_enter Try.func4, Try.ntmps4
  go_wp2_with fail
  refine HG1.out.mono ?_
  rintro e wt ⟨rfl, rfl⟩
  go_wp2_with fail
  refine HG2.out.mono ?_
  rintro e wt ⟨rfl, rfl⟩
  clear hcv
  go_wp2_with fail
  go_region_held (fun _ => True) (trivial)
    (first
      | (go_at_call 10; refine (told_any _).mono ?_; rintro e wt ⟨rfl, hbt⟩; have hB : Below w.heap.size w wt := (belowN w 1).trans hbt)
      | (go_at_call 9; refine (put_any n _ hn).mono ?_; rintro e wq ⟨gq, capq, rfl, hoq, hbq⟩; have hc1 := conv_bytes (Bytes.own hoq (enc_byte _)).1 (enc n).length capq rfl; replace hB : Below w.heap.size w wq := hB.trans (hbq.mono hB.size))
      | (go_at_call 13; refine (refput_any n _ hn).mono ?_; rintro e wr ⟨rfl, hbr⟩; have hc2 := conv_bytes ((Bytes.own hoq (enc_byte _)).1.below hbr) (enc n).length capq rfl; replace hB : Below w.heap.size w wr := hB.trans (hbr.mono hB.size); clear hoq)
      | (go_at_call 13; refine (refput_any n _ hn).mono ?_; rintro e wu ⟨rfl, hbu⟩; replace hB : Below w.heap.size w wu := hB.trans (hbu.mono hB.size))
      | (go_at_call 14; refine (zig_any a1 _ l1 u1).mono ?_; rintro e wv ⟨rfl, rfl⟩)
      | (go_at_call 15; refine (refzig_any a1 _ l1 u1).mono ?_; rintro e wv ⟨rfl, rfl⟩)
      | (go_at_call 16; refine (zag_any (n : Int) _ l0 u0).mono ?_; rintro e wv ⟨rfl, rfl⟩)
      | (go_at_call 17; refine (refzag_any (n : Int) _ l0 u0).mono ?_; rintro e wv ⟨rfl, rfl⟩)
      | (go_at_call 18; refine (size_nat n _ hn).mono ?_; rintro e wv ⟨rfl, rfl⟩))
  all_goals
    go_wp2
    go_ret
    exact ⟨rfl, hB⟩
end Go.Proofs.Ytimopggllnfibaa.varyAsks
