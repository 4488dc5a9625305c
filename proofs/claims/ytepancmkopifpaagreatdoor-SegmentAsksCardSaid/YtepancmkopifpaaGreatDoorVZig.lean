/-
  The plain arithmetic of numbers in groups of seven bits: what their bytes are, what bytes tell, and how the two fit together. No program is named here.
  Zig, Zag and Size: what each call returns at every number, the world as it was.
-/
import Derived.Lib.BitFns
import Derived.Lib.EndianBits
import Derived.Laws.BitsAllLaws
import Derived.Test.YtepancmkopifpaaGreatDoorProg
import Derived.WalkKit
import Derived.Lib.Hide
import Derived.Test.YtepancmkopifpaaGreatDoorVLen
namespace Go.Proofs.YtepancmkopifpaaGreatDoor

/-- The bytes of a number: seven bits a byte, the lowest first, all but the last with 128 more. -/
def enc (n : Nat) : List Nat := if n < 128 then [n] else (n % 128 + 128) :: enc (n / 128)
termination_by n
decreasing_by omega

theorem enc_small {n : Nat} (h : n < 128) : enc n = [n] := by rw [enc, if_pos h]
theorem enc_big {n : Nat} (h : 128 ≤ n) : enc n = (n % 128 + 128) :: enc (n / 128) := by rw [enc, if_neg (by omega)]

theorem enc_byte (n : Nat) : ∀ c ∈ enc n, c < 256 := by
  induction n using enc.induct with
  | case1 n h => rw [enc_small h]; intro c hc; simp at hc; omega
  | case2 n h ih =>
    rw [enc_big (by omega)]; intro c hc
    rcases List.mem_cons.1 hc with rfl | hc
    · omega
    · exact ih c hc

theorem enc_ne (n : Nat) : 0 < (enc n).length := by
  by_cases h : n < 128
  · rw [enc_small h]; simp
  · rw [enc_big (by omega)]; simp

/-- What bytes tell: the number, and how many bytes it took, the k bytes ahead (which told X) among them. -/
def dec : Nat → Nat → List Nat → Option (Nat × Nat)
  | _, _, [] => none
  | k, X, c :: r => if k = 9 ∧ 1 < c then none else if 128 ≤ c then dec (k + 1) (X + (c - 128) * 128 ^ k) r else if c = 0 ∧ 0 < k then none else some (X + c * 128 ^ k, k + 1)

theorem pow9 : (128 : Nat) ^ 9 = 9223372036854775808 := by decide
theorem lim9 {n k : Nat} (h : n * 128 ^ k < 18446744073709551616) (hk : k = 9) : n ≤ 1 := by subst hk; rw [pow9] at h; omega

theorem dec_enc (n : Nat) : ∀ (k X : Nat) (r : List Nat), n * 128 ^ k < 18446744073709551616 → (0 < k → 0 < n) → k ≤ 9 →
    dec k X (enc n ++ r) = some (X + n * 128 ^ k, k + (enc n).length) := by
  induction n using enc.induct with
  | case1 n h =>
    intro k X r h1 h2 h3
    rw [enc_small h]
    have : ¬ (k = 9 ∧ 1 < n) := fun ⟨a, b⟩ => by have := lim9 h1 a; omega
    have h4 : ¬ (n = 0 ∧ 0 < k) := fun ⟨a, b⟩ => by have := h2 b; omega
    simp only [List.cons_append, List.nil_append, dec, List.length_cons, List.length_nil]
    rw [if_neg this, if_neg (by omega), if_neg h4]
  | case2 n h ih =>
    intro k X r h1 h2 h3
    rw [enc_big (by omega)]
    have h9 : k ≠ 9 := fun a => by have := lim9 h1 a; omega
    have e : n % 128 * 128 ^ k + n / 128 * 128 ^ (k + 1) = n * 128 ^ k := by
      rw [Nat.pow_succ, Nat.mul_comm (128 ^ k) 128, ← Nat.mul_assoc, ← Nat.add_mul]
      congr 1
      omega
    simp only [List.cons_append, dec, List.length_cons]
    rw [if_neg (by omega), if_pos (by omega), ih (k + 1) _ r (by omega) (fun _ => by omega) (by omega)]
    rw [Nat.add_sub_cancel, Nat.add_assoc, e]
    congr 2
    omega

theorem dec_enc0 (n : Nat) (r : List Nat) (h : n < 18446744073709551616) : dec 0 0 (enc n ++ r) = some (n, (enc n).length) := by
  have := dec_enc n 0 0 r (by simpa using h) (by omega) (by omega)
  simpa using this

/-- Bytes that tell a number begin with that number's own. -/
theorem dec_only : ∀ (c : List Nat) (k X v m : Nat), (∀ x ∈ c, x < 256) → k ≤ 9 → dec k X c = some (v, m) →
    ∃ n, v = X + n * 128 ^ k ∧ n * 128 ^ k < 18446744073709551616 ∧ k < m ∧ m ≤ k + c.length ∧ c.take (m - k) = enc n ∧ (0 < k → 0 < n)
  | [], _, _, _, _, _, _, h => by simp [dec] at h
  | c :: r, k, X, v, m, hb, hk, h => by
    have hc : c < 256 := hb c (by simp)
    simp only [dec] at h
    by_cases h9 : k = 9 ∧ 1 < c
    · rw [if_pos h9] at h; cases h
    rw [if_neg h9] at h
    by_cases h128 : 128 ≤ c
    · rw [if_pos h128] at h
      have hk9 : k ≠ 9 := fun e => h9 ⟨e, by omega⟩
      obtain ⟨n, e1, e2, e3, e4, e5, e6⟩ := dec_only r (k + 1) _ v m (fun x hx => hb x (by simp [hx])) (by omega) h
      have hn := e6 (by omega)
      have hp : 0 < 128 ^ k := Nat.pow_pos (by decide)
      have e : (n * 128 + (c - 128)) * 128 ^ k = (c - 128) * 128 ^ k + n * 128 ^ (k + 1) := by
        rw [Nat.add_mul, Nat.pow_succ, Nat.mul_assoc, Nat.mul_comm 128]; omega
      refine ⟨n * 128 + (c - 128), by rw [e1, e]; omega, ?_, by omega, by simp; omega, ?_, fun _ => by omega⟩
      · have : (n * 128 + (c - 128)) * 128 ^ k < (n + 1) * 128 ^ (k + 1) := by
          rw [Nat.pow_succ, Nat.mul_comm (128 ^ k), ← Nat.mul_assoc]
          exact Nat.mul_lt_mul_of_pos_right (by omega) hp
        have hle : (n + 1) * 128 ^ (k + 1) ≤ 18446744073709551616 := by
          have hk8 : k + 1 ≤ 9 := by omega
          have hd : 128 ^ (k + 1) * 128 ^ (9 - (k + 1)) = 128 ^ 9 := by rw [← Nat.pow_add]; congr 1; omega
          have hd2 : (18446744073709551616 : Nat) = (2 * 128 ^ (9 - (k + 1))) * 128 ^ (k + 1) := by
            rw [Nat.mul_assoc, Nat.mul_comm (128 ^ (9 - (k + 1))), hd, pow9]
          rw [hd2] at e2 ⊢
          exact Nat.mul_le_mul_right _ (Nat.lt_of_mul_lt_mul_right e2)
        omega
      · have hmk : m - k = (m - (k + 1)) + 1 := by omega
        rw [hmk, List.take_succ_cons, e5, enc_big (n := n * 128 + (c - 128)) (by omega)]
        congr 1
        · omega
        · congr 1; omega
    · rw [if_neg h128] at h
      by_cases h0 : c = 0 ∧ 0 < k
      · rw [if_pos h0] at h; cases h
      rw [if_neg h0] at h
      simp only [Option.some.injEq, Prod.mk.injEq] at h
      obtain ⟨rfl, rfl⟩ := h
      refine ⟨c, rfl, ?_, by omega, by simp, ?_, fun h => by omega⟩
      · by_cases e9 : k = 9
        · subst e9; rw [pow9]; omega
        · have : 128 ^ k ≤ 128 ^ 8 := Nat.pow_le_pow_right (by decide) (by omega)
          have h8 : (128 : Nat) ^ 8 = 72057594037927936 := by decide
          rw [h8] at this
          have := Nat.mul_le_mul (show c ≤ 127 by omega) this
          omega
      · have : k + 1 - k = 0 + 1 := by omega
        rw [this, List.take_succ_cons, List.take_zero, enc_small (by omega)]

theorem dec_more : ∀ (l : List Nat) (k X : Nat), (∀ c ∈ l, 128 ≤ c) → dec k X l = none
  | [], _, _, _ => rfl
  | c :: r, k, X, h => by
    have hc : 128 ≤ c := h c (by simp)
    simp only [dec]
    split
    · rfl
    · exact dec_more r _ _ fun x hx => h x (by simp [hx])

theorem dec_none0 : ∀ (l : List Nat) (k X : Nat), (∀ c ∈ l, 128 ≤ c) → 0 < k + l.length → dec k X (l ++ [0]) = none
  | [], k, X, _, hk => by simp at hk; simp [dec, hk]
  | c :: r, k, X, h, _ => by
    have hc : 128 ≤ c := h c (by simp)
    simp only [List.cons_append, dec]
    split
    · rfl
    · exact dec_none0 r _ _ (fun x hx => h x (by simp [hx])) (by omega)

theorem enc_take (n : Nat) : ∀ j, j < (enc n).length → ∀ c ∈ (enc n).take j, 128 ≤ c := by
  induction n using enc.induct with
  | case1 n h => intro j hj c hc; rw [enc_small h] at hj hc; simp at hj; subst hj; simp at hc
  | case2 n h ih =>
    intro j hj c hc
    rw [enc_big (by omega)] at hj hc
    match j with
    | 0 => simp at hc
    | j + 1 =>
      rw [List.take_succ_cons] at hc
      rcases List.mem_cons.1 hc with rfl | hc
      · omega
      · exact ih j (by simpa using hj) c hc

theorem enc_len (n : Nat) : ∀ k, 0 < k → ((enc n).length ≤ k ↔ n < 128 ^ k) := by
  induction n using enc.induct with
  | case1 n h =>
    intro k hk
    rw [enc_small h]
    have : 128 ^ 1 ≤ 128 ^ k := Nat.pow_le_pow_right (by decide) hk
    simp; omega
  | case2 n h ih =>
    intro k hk
    rw [enc_big (by omega)]
    match k with
    | 1 => have := enc_ne (n / 128); simp only [List.length_cons, Nat.pow_one]; omega
    | k + 2 =>
      have := ih (k + 1) (by omega)
      have e : (128 : Nat) ^ (k + 2) = 128 ^ (k + 1) * 128 := by rw [Nat.pow_succ]
      simp only [List.length_cons]
      rw [e]
      omega

theorem enc_len_le {n : Nat} (h : n < 18446744073709551616) : (enc n).length ≤ 10 := by
  refine (enc_len n 10 (by decide)).2 (Nat.lt_of_lt_of_le h (by decide))

theorem enc_mono {a b : Nat} (h : a ≤ b) : (enc a).length ≤ (enc b).length := by
  have := (enc_len b (enc b).length (enc_ne b)).1 (Nat.le_refl _)
  exact (enc_len a (enc b).length (enc_ne b)).2 (by omega)

theorem or_one (n : Nat) : n ||| 1 = n / 2 * 2 + 1 := by
  have h : n / 2 * 2 ||| n % 2 = n := by
    rw [nat_join 1 (n / 2 * 2) (n % 2) (by omega) (by omega)]; omega
  have h2 : n % 2 ||| 1 = 1 := by
    rcases (show n % 2 = 0 ∨ n % 2 = 1 by omega) with e | e <;> rw [e] <;> rfl
  rw [← h, Nat.or_assoc, h2, nat_join 1 (n / 2 * 2) 1 (by omega) (by omega)]
  rw [h]

theorem bitLen_or_one (x : Nat) (h0 : x ≠ 0) (h : x < 18446744073709551616) : Lib.bitLen (x ||| 1) = Lib.bitLen x := by
  rw [or_one, Lib.bitLen_half _ (by omega) (by omega), Lib.bitLen_half x h0 (by omega)]
  congr 2
  omega

/-- How many bytes: the bits there are (one at least), in groups of seven. -/
theorem size_enc (n : Nat) (h : n < 18446744073709551616) : (Lib.bitLen (n ||| 1) + 7 - 1) / 7 = (enc n).length := by
  induction n using enc.induct with
  | case1 n hn =>
    rw [enc_small hn, or_one]
    have h1 := Lib.bitLen_le (n / 2 * 2 + 1) 7 (by decide) (by omega)
    have h2 := Lib.bitLen_half (n / 2 * 2 + 1) (by omega) (by omega)
    simp only [List.length_cons, List.length_nil]
    omega
  | case2 n hn ih =>
    have ih := ih (by omega)
    rw [bitLen_or_one _ (by omega) (by omega)] at ih ⊢
    have := Lib.bitLen_shift 7 n (by omega) (by omega)
    rw [enc_big (by omega), List.length_cons]
    have e : n / 2 ^ 7 = n / 128 := by rfl
    rw [e] at this
    omega

theorem enc_get (n : Nat) : ∀ i, i < (enc n).length → (enc n).getD i 0 = n / 128 ^ i % 128 + (if i + 1 < (enc n).length then 128 else 0) := by
  induction n using enc.induct with
  | case1 n h => intro i hi; rw [enc_small h] at hi ⊢; simp at hi; subst hi; simp; omega
  | case2 n h ih =>
    intro i hi
    rw [enc_big (by omega)] at hi ⊢
    have hl := enc_ne (n / 128)
    match i with
    | 0 =>
      simp only [List.getD_cons_zero, List.length_cons]
      rw [if_pos (by omega)]
      simp
    | i + 1 =>
      have := ih i (by simpa using hi)
      simp only [List.getD_cons_succ, List.length_cons]
      rw [this, Nat.pow_succ, Nat.mul_comm (128 ^ i), ← Nat.div_div_eq_div_mul]
      congr 1
      simp

end Go.Proofs.YtepancmkopifpaaGreatDoor
namespace Go.Proofs.YtepancmkopifpaaGreatDoor
open Go.RowKit

def zig (m : Int) : Int := if 0 ≤ m then 2 * m else -2 * m - 1
def zag (n : Int) : Int := if n % 2 = 0 then n / 2 else -(n / 2) - 1

theorem ret_int {k : IntKind} {a b : Int} (h : a = b) : Ending.returned (.int k a) = .returned (.int k b) := by rw [h]

theorem xor_m1 (m : Int) (h0 : -9223372036854775808 ≤ m) (h1 : m ≤ 9223372036854775807) : bits .xor .i64 (-1) m = -m - 1 := by
  show IntKind.i64.wrap ((BitVec.ofInt 64 (-1) ^^^ BitVec.ofInt 64 m).toNat : Int) = _
  have e : BitVec.ofInt 64 (-1) ^^^ BitVec.ofInt 64 m = ~~~ BitVec.ofInt 64 m := by
    rw [show BitVec.ofInt 64 (-1) = BitVec.allOnes 64 by decide]; exact BitVec.allOnes_xor
  rw [e, BitVec.toNat_not, BitVec.toNat_ofInt, IntKind.wrap_i64]
  omega
theorem and1 (n : Int) (h0 : 0 ≤ n) (h1 : n ≤ 18446744073709551615) : bits .and .u64 n 1 = n % 2 :=
  bits_mask .u64 64 (by decide) wraps_u64 1 (by decide) n h0 (by omega)

theorem zig_any (m : Int) (w : World) (h0 : -9223372036854775808 ≤ m) (h1 : m ≤ 9223372036854775807) :
    Calls Tryz.prog 79 #[.int .i64 m] w fun e w' => e = .returned (.int .u64 (zig m)) ∧ w = w' := by
  by_cases hm : m < 0
  · go_enter Tryz.func79, Tryz.ntmps79
    go_wp2
    go_ret
    refine ⟨ret_int ?_, rfl⟩
    rw [xor_m1 m h0 h1, u64_wrap_id (-m - 1) (by omega) (by omega), u64_wrap_id ((-m - 1) * 2) (by omega) (by omega), bits_join .u64 64 (by decide) wraps_u64 1 _ 1 (by omega) (by omega) (by omega) (by omega) (by omega) (by omega)]
    unfold zig
    rw [if_neg (by omega)]
    omega
  · go_enter Tryz.func79, Tryz.ntmps79
    go_wp2
    go_ret
    refine ⟨ret_int ?_, rfl⟩
    unfold zig
    rw [if_pos (by omega)]
    omega

theorem zag_any (n : Int) (w : World) (h0 : 0 ≤ n) (h1 : n ≤ 18446744073709551615) :
    Calls Tryz.prog 85 #[.int .u64 n] w fun e w' => e = .returned (.int .i64 (zag n)) ∧ w = w' := by
  have H := and1 n h0 h1
  by_cases hn : n % 2 = 0
  · have t : (bits BinOp.and IntKind.u64 n 1 == 1) = false := by rw [H, hn]; rfl
    have HN : Hid (n % 2 = 0) := hn
    clear H hn
    go_enter Tryz.func85, Tryz.ntmps85
    go_wp2
    go_ret
    refine ⟨ret_int ?_, rfl⟩
    unfold zag
    rw [if_pos HN.out]
  · have t : (bits BinOp.and IntKind.u64 n 1 == 1) = true := by rw [H, show n % 2 = 1 by omega]; rfl
    have HN : Hid (¬ n % 2 = 0) := hn
    clear H hn
    go_enter Tryz.func85, Tryz.ntmps85
    go_wp2
    go_ret
    refine ⟨ret_int ?_, rfl⟩
    unfold zag
    rw [if_neg HN.out, xor_m1 _ (by omega) (by omega)]

theorem zig_range (m : Int) (h0 : -9223372036854775808 ≤ m) (h1 : m ≤ 9223372036854775807) : 0 ≤ zig m ∧ zig m ≤ 18446744073709551615 := by
  unfold zig; split <;> omega
theorem zag_range (n : Int) (h0 : 0 ≤ n) (h1 : n ≤ 18446744073709551615) : -9223372036854775808 ≤ zag n ∧ zag n ≤ 9223372036854775807 := by
  unfold zag; split <;> omega
theorem zag_zig (m : Int) : zag (zig m) = m := by
  unfold zig zag; split <;> split <;> omega
theorem zig_zag (n : Int) (h : 0 ≤ n) : zig (zag n) = n := by
  unfold zig zag; split <;> split <;> omega

theorem or1 (n : Int) (h0 : 0 ≤ n) (h1 : n ≤ 18446744073709551615) : bits .or .u64 n 1 = ((n.toNat ||| 1 : Nat) : Int) :=
  u64_or n 1 h0 (by omega) (by omega) (by omega)
theorem or1_range (n : Nat) (h : n < 18446744073709551616) : n ||| 1 < 18446744073709551616 := by rw [or_one]; omega

theorem size_any (n : Int) (w : World) (h0 : 0 ≤ n) (h1 : n ≤ 18446744073709551615) :
    Calls Tryz.prog 55 #[.int .u64 n] w fun e w' => e = .returned (.int .i64 ((enc n.toNat).length : Nat)) ∧ w = w' := by
  have H := or1 n h0 h1
  have hr := or1_range n.toNat (by omega)
  have hl := Lib.bitLen_le (n.toNat ||| 1) 64 (by decide) (by omega)
  have hs := Lib.hid (size_enc n.toNat (by omega))
  generalize n.toNat ||| 1 = m at H hr hl hs
  go_enter Tryz.func55, Tryz.ntmps55
  go_wp2_with (go_at_call 82; refine (len64_any (m : Int) _ (by omega) (by omega)).mono ?_; rintro e w' ⟨rfl, rfl⟩)
  go_ret
  exact ⟨ret_int (by have := hs.out; omega), rfl⟩
end Go.Proofs.YtepancmkopifpaaGreatDoor
