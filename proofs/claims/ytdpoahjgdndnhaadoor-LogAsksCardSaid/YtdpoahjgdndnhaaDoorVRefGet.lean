/-
  The document's own Get: what it returns at every string of bytes and every place, the world as it was.
-/
import Derived.Test.YtdpoahjgdndnhaaDoorVKit
namespace Go.Proofs.YtdpoahjgdndnhaaDoor
open Go.RowKit

theorem refget_neg (s : ByteArray) (p : Int) (w : World) (h : p < 0) :
    Calls Tryd.prog 61 #[.string s, .int .i64 p] w fun e w' => e = .returned (.tuple #[.int .u64 0, .int .i64 p, .int .i64 1]) ∧ w = w' := by
  go_enter Tryd.func61, Tryd.ntmps61
  go_wp2
  go_ret3
  exact ⟨rfl, rfl⟩
theorem refget_far (s : ByteArray) (p : Int) (w : World) (h0 : 0 ≤ p) (h : (s.size : Int) < p) :
    Calls Tryd.prog 61 #[.string s, .int .i64 p] w fun e w' => e = .returned (.tuple #[.int .u64 0, .int .i64 p, .int .i64 1]) ∧ w = w' := by
  go_enter Tryd.func61, Tryd.ntmps61
  go_wp2
  go_ret3
  exact ⟨rfl, rfl⟩

theorem and127w (c : Nat) (h : c < 256) : bits .and .u64 (c : Int) 127 = ((c % 128 : Nat) : Int) := by
  have := bits_mask .u64 64 (by decide) wraps_u64 7 (by decide) (c : Int) (by omega) (by omega)
  rw [show ((127 : Int)) = 2 ^ 7 - 1 from rfl, this]
  omega

set_option maxRecDepth 100000 in
set_option maxHeartbeats 1000000 in
theorem refget_nat (s : ByteArray) (bs : List Nat) (p : Nat) (w : World) (hl : s.size = bs.length) (hb : ∀ c ∈ bs, c < 256) (hm : s.size ≤ 1000) (hp : p ≤ s.size)
    (hx : ∀ j (h : j < s.size), (s[j]'h).toNat = bs.getD j 0) :
    Calls Tryd.prog 61 #[.string s, .int .i64 (p : Int)] w fun e w' => e = getE p (dec 0 0 (bs.drop p)) ∧ w = w' := by
  have HL := Lib.hid hl
  have HB := Lib.hid hb
  have HX := Lib.hid hx
  clear hl hb hx
  obtain ⟨R, hR⟩ : ∃ R, R = dec 0 0 (bs.drop p) := ⟨_, rfl⟩
  rw [← hR]
  have HR := Lib.hid hR
  clear hR
  have t1 : decide ((p : Int) < 0) = false := by simp
  have t2 : decide (s.size < p) = false := by simp; omega
  go_enter Tryd.func61, Tryd.ntmps61
  go_wp2
  go_loop [7, 8] (fun sn si => ∃ (k X : Nat), p + k ≤ s.size ∧ k ≤ 9 ∧ si = .int .i64 (k : Int) ∧ sn = .int .u64 (X : Int) ∧ X < 128 ^ k ∧ Hid (R = dec k X (bs.drop (p + k)))) (fun _ si => s.size - (intOf si).toNat)
  case atStart => exact ⟨0, 0, by omega, by omega, rfl, rfl, by decide, HR⟩
  case round =>
    obtain ⟨k, X, hk, hk9, rfl, rfl, hX, HD⟩ := hrel
    have HXX := Lib.hid hX
    have hX64 : X < 9223372036854775808 := by have := pow_le9 hk9; omega
    clear hX
    by_cases hlt : p + k < s.size
    · have hcl := HX.out (p + k) hlt
      have hc256 := HB.out (bs.getD (p + k) 0) (getD_mem (by rw [← HL.out]; omega))
      have hdr := drop_at (bs := bs) (i := p + k) (by rw [← HL.out]; omega)
      generalize bs.getD (p + k) 0 = c at hcl hc256 hdr
      have hR : R = dec k X (c :: bs.drop (p + k + 1)) := by rw [HD.out, hdr]
      have HR' := Lib.hid hR
      clear hdr hR HD
      have hand := and127w c hc256
      obtain ⟨d, hd⟩ : ∃ d, d = c % 128 := ⟨_, rfl⟩
      rw [← hd] at hand
      have hd128 : d < 128 := by omega
      have HDD := Lib.hid hd
      clear hd
      by_cases h9 : 9 ≤ k
      · have hk0 : 0 < k := by omega
        by_cases h1 : 1 < c
        · go_wp2
          try rw [Exit.noGoto_ret]
          go_ret3
          exact ⟨by rw [HR'.out, dec_out (by omega) h1]; rfl, rfl⟩
        · by_cases h0 : c < 1
          · go_wp2
            go_ret3
            exact ⟨by rw [HR'.out, dec_zero (by omega) hk0]; rfl, rfl⟩
          · go_wp2
            go_ret3
            refine ⟨?_, rfl⟩
            rw [HR'.out, dec_stop (by omega) (by omega) (by omega)]
            refine ret3 (congrArg (Value.int .u64) ?_) (congrArg (Value.int .i64) (by omega)) rfl
            rw [show c = d by have := HDD.out; omega]
            rw [u64_wrap_id _ (by omega) (by have := HDD.out; omega)]
            exact or_nine X d k HXX.out (by omega) (by have := HDD.out; omega)
      · by_cases h128 : 128 ≤ c
        · go_wp2
          go_round
          case rel =>
            refine ⟨k + 1, X + d * 128 ^ k, by omega, by omega, by go_num, ?_, add_lt HXX.out hd128, ?_⟩
            · exact congrArg (Value.int .u64) (or_shift X d k HXX.out (by have := mul_lt8 hd128 (show k ≤ 8 by omega); omega) (by omega))
            · show R = _
              rw [HR'.out, dec_on (by omega) h128, show c - 128 = d by have := HDD.out; omega, Nat.add_assoc]
          case measure => simp [intOf]; omega
        · have hcd : c = d := by have := HDD.out; omega
          have HCD := Lib.hid hcd
          clear hcd
          by_cases h0 : c < 1
          · by_cases hk0 : k < 1
            · go_wp2
              go_ret3
              refine ⟨?_, rfl⟩
              rw [HR'.out, dec_stop (by omega) (by omega) (by omega)]
              refine ret3 (congrArg (Value.int .u64) ?_) (congrArg (Value.int .i64) (by omega)) rfl
              rw [HCD.out]
              first
                | exact or_none X d k (by omega) (by have := HDD.out; omega)
                | exact or_shift X d k HXX.out (by have := mul_lt8 hd128 (show k ≤ 8 by omega); omega) (by omega)
            · go_wp2
              go_ret3
              exact ⟨by rw [HR'.out, dec_zero (by omega) (by omega)]; rfl, rfl⟩
          · go_wp2
            go_ret3
            refine ⟨?_, rfl⟩
            rw [HR'.out, dec_stop (by omega) (by omega) (by omega)]
            refine ret3 (congrArg (Value.int .u64) ?_) (congrArg (Value.int .i64) (by omega)) rfl
            rw [HCD.out]
            exact or_shift X d k HXX.out (by have := mul_lt8 hd128 (show k ≤ 8 by omega); omega) (by omega)
    · go_wp2
      go_ret3
      have e : R = none := by
        rw [HD.out, List.drop_eq_nil_of_le (by rw [← HL.out]; omega)]; rfl
      exact ⟨by rw [e]; rfl, rfl⟩

/-- The bytes of a string made of bytes. -/
theorem strB_get (bs : List Nat) (hb : ∀ c ∈ bs, c < 256) : ∀ j (h : j < (strB bs).size), ((strB bs)[j]'h).toNat = bs.getD j 0 := by
  intro j h
  have hj : j < bs.length := by rw [strB_size] at h; exact h
  have e : (strB bs)[j]'h = UInt8.ofNat (bs.getD j 0) := by
    show (strB bs).data[j] = _
    simp [strB, strOfNums, hj]
  rw [e]
  rw [UInt8.toNat_ofNat']
  exact Nat.mod_eq_of_lt (hb _ (getD_mem hj))
end Go.Proofs.YtdpoahjgdndnhaaDoor
