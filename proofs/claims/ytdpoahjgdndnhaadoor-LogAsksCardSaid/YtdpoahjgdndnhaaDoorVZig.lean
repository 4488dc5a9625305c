/-
  Zig, Zag and Size: what each call returns at every number, the world as it was.
-/
import Derived.Test.YtdpoahjgdndnhaaDoorProg
import Derived.Test.YtdpoahjgdndnhaaDoorVMath
import Derived.WalkKit
import Derived.Lib.Hide
import Derived.Test.YtdpoahjgdndnhaaDoorVLen
namespace Go.Proofs.YtdpoahjgdndnhaaDoor
open Go.RowKit

def zig (m : Int) : Int := if 0 ≤ m then 2 * m else -2 * m - 1
def zag (n : Int) : Int := if n % 2 = 0 then n / 2 else -(n / 2) - 1

theorem ret_int {k : IntKind} {a b : Int} (h : a = b) : Ending.returned (.int k a) = .returned (.int k b) := by rw [h]

theorem xor_m1 (m : Int) (h0 : -9223372036854775808 ≤ m) (h1 : m ≤ 9223372036854775807) : bits .xor .i64 (-1) m = -m - 1 := by
  show IntKind.i64.wrap ((BitVec.ofInt 64 (-1) ^^^ BitVec.ofInt 64 m).toNat : Int) = _
  have e : BitVec.ofInt 64 (-1) ^^^ BitVec.ofInt 64 m = ~~~ BitVec.ofInt 64 m := by
    rw [show BitVec.ofInt 64 (-1) = BitVec.allOnes 64 by decide]; exact BitVec.allOnes_xor
  rw [e, BitVec.toNat_not, BitVec.toNat_ofInt, IntKind.wrap_i64]
  omega
theorem and1 (n : Int) (h0 : 0 ≤ n) (h1 : n ≤ 18446744073709551615) : bits .and .u64 n 1 = n % 2 :=
  bits_mask .u64 64 (by decide) wraps_u64 1 (by decide) n h0 (by omega)

theorem zig_range (m : Int) (h0 : -9223372036854775808 ≤ m) (h1 : m ≤ 9223372036854775807) : 0 ≤ zig m ∧ zig m ≤ 18446744073709551615 := by
  unfold zig; split <;> omega
theorem zag_range (n : Int) (h0 : 0 ≤ n) (h1 : n ≤ 18446744073709551615) : -9223372036854775808 ≤ zag n ∧ zag n ≤ 9223372036854775807 := by
  unfold zag; split <;> omega
theorem zag_zig (m : Int) : zag (zig m) = m := by
  unfold zig zag; split <;> split <;> omega
theorem zig_zag (n : Int) (h : 0 ≤ n) : zig (zag n) = n := by
  unfold zig zag; split <;> split <;> omega

theorem or1 (n : Int) (h0 : 0 ≤ n) (h1 : n ≤ 18446744073709551615) : bits .or .u64 n 1 = ((n.toNat ||| 1 : Nat) : Int) :=
  u64_or n 1 h0 (by omega) (by omega) (by omega)
theorem or1_range (n : Nat) (h : n < 18446744073709551616) : n ||| 1 < 18446744073709551616 := by rw [or_one]; omega

theorem size_any (n : Int) (w : World) (h0 : 0 ≤ n) (h1 : n ≤ 18446744073709551615) :
    Calls Tryd.prog 80 #[.int .u64 n] w fun e w' => e = .returned (.int .i64 ((enc n.toNat).length : Nat)) ∧ w = w' := by
  have H := or1 n h0 h1
  have hr := or1_range n.toNat (by omega)
  have hl := Lib.bitLen_le (n.toNat ||| 1) 64 (by decide) (by omega)
  have hs := Lib.hid (size_enc n.toNat (by omega))
  generalize n.toNat ||| 1 = m at H hr hl hs
  go_enter Tryd.func80, Tryd.ntmps80
  go_wp2_with (go_at_call 93; refine (len64_any (m : Int) _ (by omega) (by omega)).mono ?_; rintro e w' ⟨rfl, rfl⟩)
  go_ret
  exact ⟨ret_int (by have := hs.out; omega), rfl⟩
end Go.Proofs.YtdpoahjgdndnhaaDoor
