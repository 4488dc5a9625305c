/-
  Get: what it returns at every row of bytes and every place, the world as it was.
-/
import Derived.Test.YtdpoahjgdndnhaaDoorVPut
import Derived.Deep.LoopGhost
namespace Go.Proofs.YtdpoahjgdndnhaaDoor
open Go.RowKit

/-- The slice at A reads as the bytes bs. -/
def Bytes (w : World) (A : Option Addr) (bs : List Nat) : Prop :=
  (∀ c ∈ bs, c < 256) ∧ (0 < bs.length → ∃ ad, A = some ad ∧ ∀ j, j < bs.length → w.cell? (ad.add j) = some (.int .u8 ((bs.getD j 0 : Nat) : Int)))

theorem Bytes.at_ {w : World} {A : Option Addr} {bs : List Nat} (h : Bytes w A bs) (hl : 0 < bs.length) :
    ∃ b off, A = some ⟨b, off, none⟩ ∧ ∀ j, j < bs.length → w.cell? ⟨b, off + j, none⟩ = some (.int .u8 ((bs.getD j 0 : Nat) : Int)) := by
  obtain ⟨⟨b, off, spot⟩, rfl, hc⟩ := h.2 hl
  have h0 := hc 0 hl
  have hs : spot = none := by simpa [Addr.add] using World.cell?_spot h0
  subst hs
  refine ⟨b, off, rfl, fun j hj => ?_⟩
  have := hc j hj
  unfold Addr.add at this
  split at this
  · next e => subst e; exact this
  · exact this

theorem get_neg (A : Option Addr) (len cap : Nat) (p : Int) (w : World) (h : p < 0) :
    Calls Tryd.prog 78 #[.slice A len cap, .int .i64 p] w fun e w' => e = .returned (.tuple #[.int .u64 0, .int .i64 p, .int .i64 1]) ∧ w = w' := by
  go_enter Tryd.func78, Tryd.ntmps78
  go_wp2
  go_step3
  go_wp2
  try rw [Exit.noGoto_ret]
  go_ret3
  exact ⟨rfl, rfl⟩

theorem get_far (A : Option Addr) (len cap : Nat) (p : Int) (w : World) (h0 : 0 ≤ p) (h : (len : Int) < p) :
    Calls Tryd.prog 78 #[.slice A len cap, .int .i64 p] w fun e w' => e = .returned (.tuple #[.int .u64 0, .int .i64 p, .int .i64 1]) ∧ w = w' := by
  go_enter Tryd.func78, Tryd.ntmps78
  go_wp2
  go_step3
  go_wp2
  try rw [Exit.noGoto_ret]
  go_ret3
  exact ⟨rfl, rfl⟩

theorem get_end (A : Option Addr) (len cap : Nat) (w : World) (_hc : len ≤ cap) :
    Calls Tryd.prog 78 #[.slice A len cap, .int .i64 (len : Int)] w fun e w' => e = .returned (.tuple #[.int .u64 0, .int .i64 (len : Int), .int .i64 2]) ∧ w = w' := by
  go_enter Tryd.func78, Tryd.ntmps78
  go_wp2
  go_step3
  go_wp2
  go_step3
  go_wp2
  all_goals
    refine wp_loop_rounds 1 ?_
    rw [rounds_succ]
    go_wp2
    try rw [Exit.noGoto_ret]
    go_ret3
    exact ⟨rfl, rfl⟩

/-- What Get returns at the place p of bytes that tell R there. -/
def getE (p : Nat) : Option (Nat × Nat) → Ending
  | some (v, k) => .returned (.tuple #[.int .u64 (v : Int), .int .i64 ((p + k : Nat) : Int), .int .i64 0])
  | none => .returned (.tuple #[.int .u64 0, .int .i64 (p : Int), .int .i64 2])

theorem pow7 (k : Nat) : (2 : Nat) ^ (7 * k) = 128 ^ k := by rw [Nat.pow_mul]
theorem or_shift (X d k : Nat) (hX : X < 128 ^ k) (hd : d * 128 ^ k < 18446744073709551616) (hX2 : X < 18446744073709551616) :
    bits .or .u64 (X : Int) (IntKind.u64.wrap ((d : Int) * 2 ^ (7 * k))) = ((X + d * 128 ^ k : Nat) : Int) := by
  have e : (d : Int) * 2 ^ (7 * k) = ((d * 128 ^ k : Nat) : Int) := by
    rw [← pow7]; simp
  rw [e, u64_wrap_id _ (by omega) (by omega)]
  rw [bits_join_low .u64 64 (by decide) wraps_u64 (7 * k) (X : Int) ((d * 128 ^ k : Nat) : Int) (by omega) ?_ (by omega) (by omega) ?_ (by omega)]
  · omega
  · rw [← pow7] at hX; exact_mod_cast hX
  · rw [← pow7]; exact_mod_cast Nat.mul_mod_left d (2 ^ (7 * k))
theorem or_nine (X c k : Nat) (hX : X < 128 ^ k) (hk : k = 9) (hc : c ≤ 1) : bits .or .u64 (X : Int) ((c : Int) * 9223372036854775808) = ((X + c * 128 ^ k : Nat) : Int) := by
  subst hk
  rw [pow9] at hX ⊢
  rw [bits_join_low .u64 64 (by decide) wraps_u64 63 (X : Int) ((c : Int) * 9223372036854775808) (by omega) (by omega) (by omega) (by omega) (by omega) (by omega)]
  omega
theorem or_none (X c k : Nat) (hX : X < 9223372036854775808) (hc : c = 0) : bits .or .u64 (X : Int) 0 = ((X + c * 128 ^ k : Nat) : Int) := by
  subst hc
  rw [bits_join_low .u64 64 (by decide) wraps_u64 63 (X : Int) 0 (by omega) (by omega) (by omega) (by omega) (by omega) (by omega)]
  simp
theorem and127 (c : Nat) (h : c < 256) : bits .and .u8 (c : Int) 127 = ((c % 128 : Nat) : Int) := by
  have := bits_mask .u8 8 (by decide) wraps_u8 7 (by decide) (c : Int) (by omega) (by omega)
  rw [show ((127 : Int)) = 2 ^ 7 - 1 from rfl, this]
  omega
theorem pow_le8 {k : Nat} (h : k ≤ 8) : 128 ^ k ≤ 72057594037927936 := by
  have : 128 ^ k ≤ 128 ^ 8 := Nat.pow_le_pow_right (by decide) h
  have h8 : (128 : Nat) ^ 8 = 72057594037927936 := by decide
  omega
theorem pow_le9 {k : Nat} (h : k ≤ 9) : 128 ^ k ≤ 9223372036854775808 := by
  have : 128 ^ k ≤ 128 ^ 9 := Nat.pow_le_pow_right (by decide) h
  have h8 := pow9
  omega
theorem mul_lt8 {d k : Nat} (hd : d < 128) (h : k ≤ 8) : d * 128 ^ k < 9223372036854775808 := by
  have := Nat.mul_le_mul (show d ≤ 127 by omega) (pow_le8 h)
  omega
theorem add_lt {X d k : Nat} (hX : X < 128 ^ k) (hd : d < 128) : X + d * 128 ^ k < 128 ^ (k + 1) := by
  have : (d + 1) * 128 ^ k ≤ 128 * 128 ^ k := Nat.mul_le_mul_right _ (by omega)
  rw [Nat.add_mul] at this
  rw [Nat.pow_succ]
  omega
theorem drop_at {bs : List Nat} {i : Nat} (h : i < bs.length) : bs.drop i = bs.getD i 0 :: bs.drop (i + 1) := by
  rw [List.drop_eq_getElem_cons h]; simp [h]

theorem getD_mem {bs : List Nat} {i : Nat} (h : i < bs.length) : bs.getD i 0 ∈ bs := by
  have e : bs.getD i 0 = bs[i] := by simp [h]
  rw [e]; exact List.getElem_mem h
theorem dec_out {k X c : Nat} {r : List Nat} (h : k = 9) (hc : 1 < c) : dec k X (c :: r) = none := by simp [dec, h, hc]
theorem dec_on {k X c : Nat} {r : List Nat} (h : k ≠ 9) (hc : 128 ≤ c) : dec k X (c :: r) = dec (k + 1) (X + (c - 128) * 128 ^ k) r := by simp [dec, h, hc]
theorem dec_zero {k X c : Nat} {r : List Nat} (hc : c = 0) (hk : 0 < k) : dec k X (c :: r) = none := by simp [dec, hc, hk]
theorem dec_stop {k X c : Nat} {r : List Nat} (h : k = 9 → c ≤ 1) (hc : c < 128) (h0 : c = 0 → k = 0) : dec k X (c :: r) = some (X + c * 128 ^ k, k + 1) := by
  have h1 : ¬ (k = 9 ∧ 1 < c) := fun ⟨a, b⟩ => by have := h a; omega
  have h2 : ¬ (c = 0 ∧ 0 < k) := fun ⟨a, b⟩ => by have := h0 a; omega
  simp only [dec]
  rw [if_neg h1, if_neg (by omega), if_neg h2]
theorem ret3 {a b c a' b' c' : Value} (h1 : a = a') (h2 : b = b') (h3 : c = c') : Ending.returned (.tuple #[a, b, c]) = .returned (.tuple #[a', b', c']) := by rw [h1, h2, h3]

set_option maxRecDepth 100000 in
set_option maxHeartbeats 1000000 in
theorem get_in (b off len cap : Nat) (bs : List Nat) (p : Nat) (w : World) (hl : bs.length = len) (hb : ∀ c ∈ bs, c < 256) (hc : len ≤ cap) (hm : cap ≤ maxLen) (hp : p < len)
    (hcell : ∀ j, j < len → w.cell? ⟨b, off + j, none⟩ = some (.int .u8 ((bs.getD j 0 : Nat) : Int))) :
    Calls Tryd.prog 78 #[.slice (some ⟨b, off, none⟩) len cap, .int .i64 (p : Int)] w fun e w' => e = getE p (dec 0 0 (bs.drop p)) ∧ w = w' := by
  unfold maxLen at hm
  have HL := Lib.hid hl
  have HB := Lib.hid hb
  have HCELL := Lib.hid hcell
  clear hl hb hcell
  obtain ⟨R, hR⟩ : ∃ R, R = dec 0 0 (bs.drop p) := ⟨_, rfl⟩
  rw [← hR]
  have HR := Lib.hid hR
  clear hR
  have t1 : decide ((p : Int) < 0) = false := by simp
  have t2 : decide (len < p) = false := by simp; omega
  go_enter Tryd.func78, Tryd.ntmps78
  go_wp2
  go_step3
  go_wp2
  go_step3
  go_wp2
  go_loop [7, 8, 24] (fun sn ss si => ∃ (k X : Nat), k ≤ len - p ∧ k ≤ 9 ∧ si = .int .i64 (k : Int) ∧ ss = .int .i64 ((7 * k : Nat) : Int) ∧ sn = .int .u64 (X : Int) ∧ X < 128 ^ k ∧ Hid (R = dec k X (bs.drop (p + k)))) (fun _ _ si => len - (intOf si).toNat)
  case atStart => exact ⟨0, 0, by omega, by omega, rfl, rfl, rfl, by decide, HR⟩
  case round =>
    obtain ⟨k, X, hk, hk9, rfl, rfl, rfl, hX, HD⟩ := hrel
    have HX := Lib.hid hX
    have hX64 : X < 9223372036854775808 := by have := pow_le9 hk9; omega
    clear hX
    by_cases hlt : k < len - p
    · have hcl := HCELL.out (p + k) (by omega)
      have hc256 := HB.out (bs.getD (p + k) 0) (getD_mem (by rw [HL.out]; omega))
      have hdr := drop_at (bs := bs) (i := p + k) (by rw [HL.out]; omega)
      generalize bs.getD (p + k) 0 = c at hcl hc256 hdr
      rw [← Nat.add_assoc] at hcl
      have hR : R = dec k X (c :: bs.drop (p + k + 1)) := by rw [HD.out, hdr]
      have HR' := Lib.hid hR
      clear hdr hR HD
      by_cases h9 : 9 ≤ k
      · have hk0 : 0 < k := by omega
        by_cases h1 : 1 < c
        · go_wp2
          try rw [Exit.noGoto_ret]
          go_ret3
          exact ⟨by rw [HR'.out, dec_out (by omega) h1]; rfl, rfl⟩
        · by_cases h0 : c < 1
          · go_wp2
            try rw [Exit.noGoto_ret]
            go_ret3
            exact ⟨by rw [HR'.out, dec_zero (by omega) hk0]; rfl, rfl⟩
          · go_wp2
            try rw [Exit.noGoto_ret]
            go_ret3
            refine ⟨?_, rfl⟩
            rw [HR'.out, dec_stop (by omega) (by omega) (by omega)]
            refine ret3 (congrArg (Value.int .u64) (or_nine X c k HX.out (by omega) (by omega))) (congrArg (Value.int .i64) (by omega)) rfl
      · by_cases h128 : 128 ≤ c
        · have hand := and127 c hc256
          obtain ⟨d, hd⟩ : ∃ d, d = c % 128 := ⟨_, rfl⟩
          rw [← hd] at hand
          have hd128 : d < 128 := by omega
          have HDD := Lib.hid hd
          clear hd
          go_wp2
          go_round
          case rel => 
            refine ⟨k + 1, X + d * 128 ^ k, by omega, by omega, by go_num, by go_num, ?_, add_lt HX.out hd128, ?_⟩
            · exact congrArg (Value.int .u64) (or_shift X d k HX.out (by have := mul_lt8 hd128 (show k ≤ 8 by omega); omega) (by omega))
            · show R = _
              rw [HR'.out, dec_on (by omega) h128, show c - 128 = d by have := HDD.out; omega, Nat.add_assoc]
          case measure => simp [intOf]; omega
        · by_cases h0 : c < 1
          · by_cases hk0 : k < 1
            · go_wp2
              try rw [Exit.noGoto_ret]
              go_ret3
              refine ⟨?_, rfl⟩
              rw [HR'.out, dec_stop (by omega) (by omega) (by omega)]
              refine ret3 (congrArg (Value.int .u64) (or_none X c k (by omega) (by omega))) (congrArg (Value.int .i64) (by omega)) rfl
            · go_wp2
              try rw [Exit.noGoto_ret]
              go_ret3
              exact ⟨by rw [HR'.out, dec_zero (by omega) (by omega)]; rfl, rfl⟩
          · go_wp2
            try rw [Exit.noGoto_ret]
            go_ret3
            refine ⟨?_, rfl⟩
            rw [HR'.out, dec_stop (by omega) (by omega) (by omega)]
            refine ret3 (congrArg (Value.int .u64) (or_shift X c k HX.out ?_ (by omega))) (congrArg (Value.int .i64) (by omega)) rfl
            have := mul_lt8 (show c < 128 by omega) (show k ≤ 8 by omega)
            omega
    · go_wp2
      try rw [Exit.noGoto_ret]
      go_ret3
      have e : R = none := by
        rw [HD.out, List.drop_eq_nil_of_le (by rw [HL.out]; omega)]; rfl
      exact ⟨by rw [e]; rfl, rfl⟩
end Go.Proofs.YtdpoahjgdndnhaaDoor
