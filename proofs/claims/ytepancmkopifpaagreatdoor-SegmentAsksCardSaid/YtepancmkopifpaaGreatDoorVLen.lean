/-
  The library's Len64, its own text walked: it returns how many bits a number has, the world as it was.
-/
import Derived.Test.YtepancmkopifpaaGreatDoorProg
import Derived.Lib.Strings
import Derived.Lib.Walk
import Derived.Lib.BitFns
namespace Go.Proofs.YtepancmkopifpaaGreatDoor

/-- The bits of x are s more than those of the byte that is left of it behind s shifts; a table tells those. -/
theorem len_way (x b : Int) (s : Nat) (h0 : 0 ≤ x) (h1 : x ≤ 18446744073709551615) (hs : s = 0 ∨ 2 ^ s ≤ x.toNat) (hb : b.toNat = x.toNat / 2 ^ s) (hb0 : 0 ≤ b) (hb1 : b ≤ 255) :
    (s : Int) + Lib.len8 b = (Lib.bitLen x.toNat : Int) ∧ 0 ≤ Lib.len8 b ∧ Lib.len8 b ≤ 8 := by
  have t := Lib.len8_of b hb0 hb1
  have u := Lib.bitLen_le8' b hb0 hb1
  refine ⟨?_, by omega, by omega⟩
  rw [t, hb]
  rcases hs with rfl | hs
  · simp
  · have := Lib.bitLen_shift s x.toNat hs (by omega)
    omega

set_option maxHeartbeats 4000000 in
set_option maxRecDepth 100000 in
theorem len64_any (x : Int) (w : World) (h0 : 0 ≤ x) (h1 : x ≤ 18446744073709551615) :
    Calls Tryz.prog 82 #[.int .u64 x] w fun e w' => e = .returned (.int .i64 (Lib.bitLen x.toNat)) ∧ w' = w := by
  go_enter Tryz.func82, Tryz.ntmps82
  go_wp2
  all_goals (go_ret; refine ⟨congrArg (fun n => Ending.returned (Value.int IntKind.i64 n)) ?_, rfl⟩)
  all_goals first
    | (have e := len_way x (x / 4294967296 / 65536 / 256 % 256) 56 h0 h1 (by omega) (by omega) (by omega) (by omega); omega)
    | (have e := len_way x (x / 4294967296 / 65536 % 256) 48 h0 h1 (by omega) (by omega) (by omega) (by omega); omega)
    | (have e := len_way x (x / 4294967296 / 256 % 256) 40 h0 h1 (by omega) (by omega) (by omega) (by omega); omega)
    | (have e := len_way x (x / 4294967296 % 256) 32 h0 h1 (by omega) (by omega) (by omega) (by omega); omega)
    | (have e := len_way x (x / 65536 / 256 % 256) 24 h0 h1 (by omega) (by omega) (by omega) (by omega); omega)
    | (have e := len_way x (x / 65536 % 256) 16 h0 h1 (by omega) (by omega) (by omega) (by omega); omega)
    | (have e := len_way x (x / 256 % 256) 8 h0 h1 (by omega) (by omega) (by omega) (by omega); omega)
    | (have e := len_way x (x % 256) 0 h0 h1 (by omega) (by omega) (by omega) (by omega); omega)
end Go.Proofs.YtepancmkopifpaaGreatDoor
