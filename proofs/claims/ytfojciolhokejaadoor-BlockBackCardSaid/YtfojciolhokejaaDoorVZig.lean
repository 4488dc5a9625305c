/-
  Zig, Zag and Size: what each call returns at every number, the world as it was.
-/
import Derived.Test.YtfojciolhokejaaDoorProg
import Derived.Test.YtfojciolhokejaaDoorVMath
import Derived.WalkKit
import Derived.Lib.Hide
import Derived.Test.YtfojciolhokejaaDoorVLen
namespace Go.Proofs.YtfojciolhokejaaDoor
open Go.RowKit

def zig (m : Int) : Int := if 0 ≤ m then 2 * m else -2 * m - 1
def zag (n : Int) : Int := if n % 2 = 0 then n / 2 else -(n / 2) - 1

theorem ret_int {k : IntKind} {a b : Int} (h : a = b) : Ending.returned (.int k a) = .returned (.int k b) := by rw [h]

theorem xor_m1 (m : Int) (h0 : -9223372036854775808 ≤ m) (h1 : m ≤ 9223372036854775807) : bits .xor .i64 (-1) m = -m - 1 := by
  show IntKind.i64.wrap ((BitVec.ofInt 64 (-1) ^^^ BitVec.ofInt 64 m).toNat : Int) = _
  have e : BitVec.ofInt 64 (-1) ^^^ BitVec.ofInt 64 m = ~~~ BitVec.ofInt 64 m := by
    rw [show BitVec.ofInt 64 (-1) = BitVec.allOnes 64 by decide]; exact BitVec.allOnes_xor
  rw [e, BitVec.toNat_not, BitVec.toNat_ofInt, IntKind.wrap_i64]
  omega
theorem and1 (n : Int) (h0 : 0 ≤ n) (h1 : n ≤ 18446744073709551615) : bits .and .u64 n 1 = n % 2 :=
  bits_mask .u64 64 (by decide) wraps_u64 1 (by decide) n h0 (by omega)

theorem zig_any (m : Int) (w : World) (h0 : -9223372036854775808 ≤ m) (h1 : m ≤ 9223372036854775807) :
    Calls Tryd.prog 24 #[.int .i64 m] w fun e w' => e = .returned (.int .u64 (zig m)) ∧ w = w' := by
  by_cases hm : m < 0
  · go_enter Tryd.func24, Tryd.ntmps24
    go_wp2
    go_ret
    refine ⟨ret_int ?_, rfl⟩
    rw [xor_m1 m h0 h1, u64_wrap_id (-m - 1) (by omega) (by omega), u64_wrap_id ((-m - 1) * 2) (by omega) (by omega), bits_join .u64 64 (by decide) wraps_u64 1 _ 1 (by omega) (by omega) (by omega) (by omega) (by omega) (by omega)]
    unfold zig
    rw [if_neg (by omega)]
    omega
  · go_enter Tryd.func24, Tryd.ntmps24
    go_wp2
    go_ret
    refine ⟨ret_int ?_, rfl⟩
    unfold zig
    rw [if_pos (by omega)]
    omega

theorem zag_any (n : Int) (w : World) (h0 : 0 ≤ n) (h1 : n ≤ 18446744073709551615) :
    Calls Tryd.prog 30 #[.int .u64 n] w fun e w' => e = .returned (.int .i64 (zag n)) ∧ w = w' := by
  have H := and1 n h0 h1
  by_cases hn : n % 2 = 0
  · have t : (bits BinOp.and IntKind.u64 n 1 == 1) = false := by rw [H, hn]; rfl
    have HN : Hid (n % 2 = 0) := hn
    clear H hn
    go_enter Tryd.func30, Tryd.ntmps30
    go_wp2
    go_ret
    refine ⟨ret_int ?_, rfl⟩
    unfold zag
    rw [if_pos HN.out]
  · have t : (bits BinOp.and IntKind.u64 n 1 == 1) = true := by rw [H, show n % 2 = 1 by omega]; rfl
    have HN : Hid (¬ n % 2 = 0) := hn
    clear H hn
    go_enter Tryd.func30, Tryd.ntmps30
    go_wp2
    go_ret
    refine ⟨ret_int ?_, rfl⟩
    unfold zag
    rw [if_neg HN.out, xor_m1 _ (by omega) (by omega)]

theorem zig_range (m : Int) (h0 : -9223372036854775808 ≤ m) (h1 : m ≤ 9223372036854775807) : 0 ≤ zig m ∧ zig m ≤ 18446744073709551615 := by
  unfold zig; split <;> omega
theorem zag_range (n : Int) (h0 : 0 ≤ n) (h1 : n ≤ 18446744073709551615) : -9223372036854775808 ≤ zag n ∧ zag n ≤ 9223372036854775807 := by
  unfold zag; split <;> omega
theorem zag_zig (m : Int) : zag (zig m) = m := by
  unfold zig zag; split <;> split <;> omega
theorem zig_zag (n : Int) (h : 0 ≤ n) : zig (zag n) = n := by
  unfold zig zag; split <;> split <;> omega

theorem or1 (n : Int) (h0 : 0 ≤ n) (h1 : n ≤ 18446744073709551615) : bits .or .u64 n 1 = ((n.toNat ||| 1 : Nat) : Int) :=
  u64_or n 1 h0 (by omega) (by omega) (by omega)
theorem or1_range (n : Nat) (h : n < 18446744073709551616) : n ||| 1 < 18446744073709551616 := by rw [or_one]; omega

theorem size_any (n : Int) (w : World) (h0 : 0 ≤ n) (h1 : n ≤ 18446744073709551615) :
    Calls Tryd.prog 44 #[.int .u64 n] w fun e w' => e = .returned (.int .i64 ((enc n.toNat).length : Nat)) ∧ w = w' := by
  have H := or1 n h0 h1
  have hr := or1_range n.toNat (by omega)
  have hl := Lib.bitLen_le (n.toNat ||| 1) 64 (by decide) (by omega)
  have hs := Lib.hid (size_enc n.toNat (by omega))
  generalize n.toNat ||| 1 = m at H hr hl hs
  go_enter Tryd.func44, Tryd.ntmps44
  go_wp2_with (go_at_call 55; refine (len64_any (m : Int) _ (by omega) (by omega)).mono ?_; rintro e w' ⟨rfl, rfl⟩)
  go_ret
  exact ⟨ret_int (by have := hs.out; omega), rfl⟩
end Go.Proofs.YtfojciolhokejaaDoor
