/-
  Put: it returns the number's bytes in a row of its own, and writes nothing that was there.
  Get: what it returns at every row of bytes and every place, the world as it was.
  Rows of bytes that came in or were made, bytes as a string; vary's calls at a row's beginning.
  The document's own answers: what each of its calls returns, the world as it was or with new memory alone.
  The document's own Get: what it returns at every string of bytes and every place, the world as it was.
-/
import Derived.Test.YtepancmkopifpaaGreatDoorVZig
import Derived.Deep.AppendLies
import Derived.Deep.LoopGhost
import Derived.Laws.BytesArg
import Derived.Deep.QuietTactic
import Derived.BigQuiet
namespace Go.Proofs.YtepancmkopifpaaGreatDoor
open Go.RowKit

theorem Tryz.info5 : (Tryz.prog.info? 5).map (fun i => (i.zero, i.size, i.bytes)) = some (some (.int .u8 0), 1, 1) := by kernel_rfl

/-- A row of bytes as cells. -/
def bytesV (l : List Nat) : List Value := l.map fun c : Nat => Value.int .u8 (c : Int)
theorem bytesV_append (a b : List Nat) : bytesV (a ++ b) = bytesV a ++ bytesV b := by simp [bytesV]
theorem bytesV_length (a : List Nat) : (bytesV a).length = a.length := by simp [bytesV]

def PutPost (n : Nat) (w : World) (e : Ending) (w' : World) : Prop :=
  ∃ g cap, e = .returned (.slice (some ⟨g, 0, none⟩) (enc n).length cap) ∧
    w'.ownsRow w.heap.size 5 1 (.slice (some ⟨g, 0, none⟩) (enc n).length cap) (enc n).length (bytesV (enc n)) ∧ Below w.heap.size w w'

theorem or128 (m : Nat) : bits .or .u8 ((m : Int) % 256) 128 = ((m % 128 + 128 : Nat) : Int) := by
  have e : (m : Int) % 256 = ((m % 256 : Nat) : Int) := by omega
  have d : ∀ x : Fin 256, x.val ||| 128 = x.val % 128 + 128 := by decide +kernel
  rw [e]
  have := u8_or_nat (m % 256) 128 (by omega) (by omega)
  rw [show ((128 : Nat) : Int) = 128 from rfl] at this
  rw [this, d ⟨m % 256, by omega⟩]
  simp only
  omega

theorem put_step {d : List Nat} {m n : Nat} (h : d ++ enc m = enc n) (hm : 128 ≤ m) : (d ++ [m % 128 + 128]) ++ enc (m / 128) = enc n := by
  rw [← h, enc_big hm]; simp
theorem put_len {d : List Nat} {m n : Nat} (h : d ++ enc m = enc n) (hn : n < 18446744073709551616) : d.length + 1 ≤ 10 := by
  have h1 := enc_len_le hn
  have h2 := enc_ne m
  rw [← h, List.length_append] at h1
  omega

set_option maxRecDepth 100000 in
theorem put_any (n : Nat) (w : World) (hn : n < 18446744073709551616) : Calls Tryz.prog 22 #[.int .u64 (n : Int)] w (PutPost n w) := by
  obtain ⟨i0, hi, hz0, hz1, hz2⟩ := info_parts Tryz.info5
  have hl := enc_len_le hn
  go_enter Tryz.func22, Tryz.ntmps22
  go_wp2_with (first
    | (go_at_call 55; refine (size_any (n : Int) _ (by omega) (by omega)).mono ?_; rintro e w' ⟨rfl, rfl⟩)
    | (at_make; refine wpList_make_own _ rfl _ _ 26 rfl w.heap.size 5 i0 (.int .u8 0) 1 Tryz.underlying26 hi hz0 hz1 _ _ _ (enc n).length rfl rfl (by simp) ?b2 ?b3 (Nat.le_refl _) ?_))
  case b2 => rw [hz2]; omega
  case b3 => unfold maxLen; omega
  intro w0 hown0 hgrow0
  go_wp2
  go_loopw [0, 3] (fun s v wr => ∃ (m : Nat) (d : List Nat), s = .int .u64 (m : Int) ∧ m ≤ n ∧ Hid (d ++ enc m = enc n) ∧ wr.ownsRow w.heap.size 5 1 v d.length (bytesV d) ∧ Below w.heap.size w wr)
    (fun s _ _ => (intOf s).toNat)
  case atStart => exact ⟨n, [], rfl, Nat.le_refl _, by exact rfl, hown0, (Below.refl _ _).grown hgrow0 (Nat.le_refl _) (fun k h => by cases h)⟩
  case round =>
    obtain ⟨m, d, rfl, hm, hd, hown, hnx⟩ := hrel
    have hdl := put_len hd.out hn
    have hsz := hnx.size
    clear hown0 hgrow0
    by_cases h128 : 128 ≤ m
    · have hb := or128 m
      obtain ⟨c, hc⟩ : ∃ c : Nat, c = m % 128 + 128 := ⟨_, rfl⟩
      rw [← hc] at hb
      have HC := Lib.hid hc
      clear hc
      go_wp2_with (at_builtin; refine wpList_append_own _ rfl _ _ 26 rfl w.heap.size 5 i0 (.int .u8 0) 1 1 Tryz.underlying26 hi hz0 hz1 hz2 rfl (by decide) _ _ _ rfl (hown.alloc _) ⟨wr.heap.size, 0, none⟩ 1 1 [.int .u8 (c : Int)] rfl rfl ?c1 ?c2 ?c3 ?c4 ?c5 ?_)
      case c1 =>
        intro j u hj
        match j, hj with
        | 0, hj => simp at hj; subst hj; simp [Addr.add]
      case c2 => intro u hu; simp at hu; subst hu; rfl
      case c3 => unfold maxLen; omega
      case c4 => omega
      case c5 => simp; omega
      intro v' w1 hown' hgrow _
      clear hb
      go_wp2
      go_roundw
      case rel =>
        refine ⟨m / 128, d ++ [m % 128 + 128], by go_num, by omega, by exact put_step hd.out h128, ?_, ?_⟩
        · rw [HC.out] at hown'
          rw [bytesV_append]
          simpa [bytesV] using hown'
        · exact (hnx.alloc hsz _).grown hgrow (by simp; omega) (fun k h => (hown.lt k h).1)
      case measure => simp [intOf]; omega
    · go_wp2_with (at_builtin; refine wpList_append_own _ rfl _ _ 26 rfl w.heap.size 5 i0 (.int .u8 0) 1 1 Tryz.underlying26 hi hz0 hz1 hz2 rfl (by decide) _ _ _ rfl (hown.alloc _) ⟨wr.heap.size, 0, none⟩ 1 1 [.int .u8 (m : Int)] rfl rfl ?d1 ?d2 ?d3 ?d4 ?d5 ?_)
      case d1 =>
        intro j u hj
        match j, hj with
        | 0, hj => simp at hj; subst hj; simp [Addr.add]
      case d2 => intro u hu; simp at hu; subst hu; rfl
      case d3 => unfold maxLen; omega
      case d4 => omega
      case d5 => simp; omega
      intro v' w1 hown' hgrow hnil
      go_wp2
      go_ret
      have hE : d ++ [m] = enc n := by rw [← hd.out, enc_small (by omega)]
      have hB : Below w.heap.size w w1 := (hnx.alloc hsz _).grown hgrow (by simp; omega) (fun k h => (hown.lt k h).1)
      have hL : d.length + 1 = (enc n).length := by rw [← hE]; simp
      rw [show bytesV d ++ [Value.int IntKind.u8 (m : Int)] = bytesV (enc n) by rw [← hE, bytesV_append]; rfl, hL] at hown'
      obtain ⟨g, cap, rfl, _, _⟩ := hown'.form (enc_ne n)
      exact ⟨g, cap, rfl, hown', hB⟩
end Go.Proofs.YtepancmkopifpaaGreatDoor
namespace Go.Proofs.YtepancmkopifpaaGreatDoor
open Go.RowKit

/-- The slice at A reads as the bytes bs. -/
def Bytes (w : World) (A : Option Addr) (bs : List Nat) : Prop :=
  (∀ c ∈ bs, c < 256) ∧ (0 < bs.length → ∃ ad, A = some ad ∧ ∀ j, j < bs.length → w.cell? (ad.add j) = some (.int .u8 ((bs.getD j 0 : Nat) : Int)))

theorem Bytes.at_ {w : World} {A : Option Addr} {bs : List Nat} (h : Bytes w A bs) (hl : 0 < bs.length) :
    ∃ b off, A = some ⟨b, off, none⟩ ∧ ∀ j, j < bs.length → w.cell? ⟨b, off + j, none⟩ = some (.int .u8 ((bs.getD j 0 : Nat) : Int)) := by
  obtain ⟨⟨b, off, spot⟩, rfl, hc⟩ := h.2 hl
  have h0 := hc 0 hl
  have hs : spot = none := by simpa [Addr.add] using World.cell?_spot h0
  subst hs
  refine ⟨b, off, rfl, fun j hj => ?_⟩
  have := hc j hj
  unfold Addr.add at this
  split at this
  · next e => subst e; exact this
  · exact this

theorem get_neg (A : Option Addr) (len cap : Nat) (p : Int) (w : World) (h : p < 0) :
    Calls Tryz.prog 61 #[.slice A len cap, .int .i64 p] w fun e w' => e = .returned (.tuple #[.int .u64 0, .int .i64 p, .int .i64 1]) ∧ w = w' := by
  go_enter Tryz.func61, Tryz.ntmps61
  go_wp2
  go_step3
  go_wp2
  try rw [Exit.noGoto_ret]
  go_ret3
  exact ⟨rfl, rfl⟩

theorem get_far (A : Option Addr) (len cap : Nat) (p : Int) (w : World) (h0 : 0 ≤ p) (h : (len : Int) < p) :
    Calls Tryz.prog 61 #[.slice A len cap, .int .i64 p] w fun e w' => e = .returned (.tuple #[.int .u64 0, .int .i64 p, .int .i64 1]) ∧ w = w' := by
  go_enter Tryz.func61, Tryz.ntmps61
  go_wp2
  go_step3
  go_wp2
  try rw [Exit.noGoto_ret]
  go_ret3
  exact ⟨rfl, rfl⟩

theorem get_end (A : Option Addr) (len cap : Nat) (w : World) (_hc : len ≤ cap) :
    Calls Tryz.prog 61 #[.slice A len cap, .int .i64 (len : Int)] w fun e w' => e = .returned (.tuple #[.int .u64 0, .int .i64 (len : Int), .int .i64 2]) ∧ w = w' := by
  go_enter Tryz.func61, Tryz.ntmps61
  go_wp2
  go_step3
  go_wp2
  go_step3
  go_wp2
  all_goals
    refine wp_loop_rounds 1 ?_
    rw [rounds_succ]
    go_wp2
    try rw [Exit.noGoto_ret]
    go_ret3
    exact ⟨rfl, rfl⟩

/-- What Get returns at the place p of bytes that tell R there. -/
def getE (p : Nat) : Option (Nat × Nat) → Ending
  | some (v, k) => .returned (.tuple #[.int .u64 (v : Int), .int .i64 ((p + k : Nat) : Int), .int .i64 0])
  | none => .returned (.tuple #[.int .u64 0, .int .i64 (p : Int), .int .i64 2])

theorem pow7 (k : Nat) : (2 : Nat) ^ (7 * k) = 128 ^ k := by rw [Nat.pow_mul]
theorem or_shift (X d k : Nat) (hX : X < 128 ^ k) (hd : d * 128 ^ k < 18446744073709551616) (hX2 : X < 18446744073709551616) :
    bits .or .u64 (X : Int) (IntKind.u64.wrap ((d : Int) * 2 ^ (7 * k))) = ((X + d * 128 ^ k : Nat) : Int) := by
  have e : (d : Int) * 2 ^ (7 * k) = ((d * 128 ^ k : Nat) : Int) := by
    rw [← pow7]; simp
  rw [e, u64_wrap_id _ (by omega) (by omega)]
  rw [bits_join_low .u64 64 (by decide) wraps_u64 (7 * k) (X : Int) ((d * 128 ^ k : Nat) : Int) (by omega) ?_ (by omega) (by omega) ?_ (by omega)]
  · omega
  · rw [← pow7] at hX; exact_mod_cast hX
  · rw [← pow7]; exact_mod_cast Nat.mul_mod_left d (2 ^ (7 * k))
theorem or_nine (X c k : Nat) (hX : X < 128 ^ k) (hk : k = 9) (hc : c ≤ 1) : bits .or .u64 (X : Int) ((c : Int) * 9223372036854775808) = ((X + c * 128 ^ k : Nat) : Int) := by
  subst hk
  rw [pow9] at hX ⊢
  rw [bits_join_low .u64 64 (by decide) wraps_u64 63 (X : Int) ((c : Int) * 9223372036854775808) (by omega) (by omega) (by omega) (by omega) (by omega) (by omega)]
  omega
theorem or_none (X c k : Nat) (hX : X < 9223372036854775808) (hc : c = 0) : bits .or .u64 (X : Int) 0 = ((X + c * 128 ^ k : Nat) : Int) := by
  subst hc
  rw [bits_join_low .u64 64 (by decide) wraps_u64 63 (X : Int) 0 (by omega) (by omega) (by omega) (by omega) (by omega) (by omega)]
  simp
theorem and127 (c : Nat) (h : c < 256) : bits .and .u8 (c : Int) 127 = ((c % 128 : Nat) : Int) := by
  have := bits_mask .u8 8 (by decide) wraps_u8 7 (by decide) (c : Int) (by omega) (by omega)
  rw [show ((127 : Int)) = 2 ^ 7 - 1 from rfl, this]
  omega
theorem pow_le8 {k : Nat} (h : k ≤ 8) : 128 ^ k ≤ 72057594037927936 := by
  have : 128 ^ k ≤ 128 ^ 8 := Nat.pow_le_pow_right (by decide) h
  have h8 : (128 : Nat) ^ 8 = 72057594037927936 := by decide
  omega
theorem pow_le9 {k : Nat} (h : k ≤ 9) : 128 ^ k ≤ 9223372036854775808 := by
  have : 128 ^ k ≤ 128 ^ 9 := Nat.pow_le_pow_right (by decide) h
  have h8 := pow9
  omega
theorem mul_lt8 {d k : Nat} (hd : d < 128) (h : k ≤ 8) : d * 128 ^ k < 9223372036854775808 := by
  have := Nat.mul_le_mul (show d ≤ 127 by omega) (pow_le8 h)
  omega
theorem add_lt {X d k : Nat} (hX : X < 128 ^ k) (hd : d < 128) : X + d * 128 ^ k < 128 ^ (k + 1) := by
  have : (d + 1) * 128 ^ k ≤ 128 * 128 ^ k := Nat.mul_le_mul_right _ (by omega)
  rw [Nat.add_mul] at this
  rw [Nat.pow_succ]
  omega
theorem drop_at {bs : List Nat} {i : Nat} (h : i < bs.length) : bs.drop i = bs.getD i 0 :: bs.drop (i + 1) := by
  rw [List.drop_eq_getElem_cons h]; simp [h]

theorem getD_mem {bs : List Nat} {i : Nat} (h : i < bs.length) : bs.getD i 0 ∈ bs := by
  have e : bs.getD i 0 = bs[i] := by simp [h]
  rw [e]; exact List.getElem_mem h
theorem dec_out {k X c : Nat} {r : List Nat} (h : k = 9) (hc : 1 < c) : dec k X (c :: r) = none := by simp [dec, h, hc]
theorem dec_on {k X c : Nat} {r : List Nat} (h : k ≠ 9) (hc : 128 ≤ c) : dec k X (c :: r) = dec (k + 1) (X + (c - 128) * 128 ^ k) r := by simp [dec, h, hc]
theorem dec_zero {k X c : Nat} {r : List Nat} (hc : c = 0) (hk : 0 < k) : dec k X (c :: r) = none := by simp [dec, hc, hk]
theorem dec_stop {k X c : Nat} {r : List Nat} (h : k = 9 → c ≤ 1) (hc : c < 128) (h0 : c = 0 → k = 0) : dec k X (c :: r) = some (X + c * 128 ^ k, k + 1) := by
  have h1 : ¬ (k = 9 ∧ 1 < c) := fun ⟨a, b⟩ => by have := h a; omega
  have h2 : ¬ (c = 0 ∧ 0 < k) := fun ⟨a, b⟩ => by have := h0 a; omega
  simp only [dec]
  rw [if_neg h1, if_neg (by omega), if_neg h2]
theorem ret3 {a b c a' b' c' : Value} (h1 : a = a') (h2 : b = b') (h3 : c = c') : Ending.returned (.tuple #[a, b, c]) = .returned (.tuple #[a', b', c']) := by rw [h1, h2, h3]

set_option maxRecDepth 100000 in
set_option maxHeartbeats 1000000 in
theorem get_in (b off len cap : Nat) (bs : List Nat) (p : Nat) (w : World) (hl : bs.length = len) (hb : ∀ c ∈ bs, c < 256) (hc : len ≤ cap) (hm : cap ≤ maxLen) (hp : p < len)
    (hcell : ∀ j, j < len → w.cell? ⟨b, off + j, none⟩ = some (.int .u8 ((bs.getD j 0 : Nat) : Int))) :
    Calls Tryz.prog 61 #[.slice (some ⟨b, off, none⟩) len cap, .int .i64 (p : Int)] w fun e w' => e = getE p (dec 0 0 (bs.drop p)) ∧ w = w' := by
  unfold maxLen at hm
  have HL := Lib.hid hl
  have HB := Lib.hid hb
  have HCELL := Lib.hid hcell
  clear hl hb hcell
  obtain ⟨R, hR⟩ : ∃ R, R = dec 0 0 (bs.drop p) := ⟨_, rfl⟩
  rw [← hR]
  have HR := Lib.hid hR
  clear hR
  have t1 : decide ((p : Int) < 0) = false := by simp
  have t2 : decide (len < p) = false := by simp; omega
  go_enter Tryz.func61, Tryz.ntmps61
  go_wp2
  go_step3
  go_wp2
  go_step3
  go_wp2
  go_loop [7, 8, 24] (fun sn ss si => ∃ (k X : Nat), k ≤ len - p ∧ k ≤ 9 ∧ si = .int .i64 (k : Int) ∧ ss = .int .i64 ((7 * k : Nat) : Int) ∧ sn = .int .u64 (X : Int) ∧ X < 128 ^ k ∧ Hid (R = dec k X (bs.drop (p + k)))) (fun _ _ si => len - (intOf si).toNat)
  case atStart => exact ⟨0, 0, by omega, by omega, rfl, rfl, rfl, by decide, HR⟩
  case round =>
    obtain ⟨k, X, hk, hk9, rfl, rfl, rfl, hX, HD⟩ := hrel
    have HX := Lib.hid hX
    have hX64 : X < 9223372036854775808 := by have := pow_le9 hk9; omega
    clear hX
    by_cases hlt : k < len - p
    · have hcl := HCELL.out (p + k) (by omega)
      have hc256 := HB.out (bs.getD (p + k) 0) (getD_mem (by rw [HL.out]; omega))
      have hdr := drop_at (bs := bs) (i := p + k) (by rw [HL.out]; omega)
      generalize bs.getD (p + k) 0 = c at hcl hc256 hdr
      rw [← Nat.add_assoc] at hcl
      have hR : R = dec k X (c :: bs.drop (p + k + 1)) := by rw [HD.out, hdr]
      have HR' := Lib.hid hR
      clear hdr hR HD
      by_cases h9 : 9 ≤ k
      · have hk0 : 0 < k := by omega
        by_cases h1 : 1 < c
        · go_wp2
          try rw [Exit.noGoto_ret]
          go_ret3
          exact ⟨by rw [HR'.out, dec_out (by omega) h1]; rfl, rfl⟩
        · by_cases h0 : c < 1
          · go_wp2
            try rw [Exit.noGoto_ret]
            go_ret3
            exact ⟨by rw [HR'.out, dec_zero (by omega) hk0]; rfl, rfl⟩
          · go_wp2
            try rw [Exit.noGoto_ret]
            go_ret3
            refine ⟨?_, rfl⟩
            rw [HR'.out, dec_stop (by omega) (by omega) (by omega)]
            refine ret3 (congrArg (Value.int .u64) (or_nine X c k HX.out (by omega) (by omega))) (congrArg (Value.int .i64) (by omega)) rfl
      · by_cases h128 : 128 ≤ c
        · have hand := and127 c hc256
          obtain ⟨d, hd⟩ : ∃ d, d = c % 128 := ⟨_, rfl⟩
          rw [← hd] at hand
          have hd128 : d < 128 := by omega
          have HDD := Lib.hid hd
          clear hd
          go_wp2
          go_round
          case rel => 
            refine ⟨k + 1, X + d * 128 ^ k, by omega, by omega, by go_num, by go_num, ?_, add_lt HX.out hd128, ?_⟩
            · exact congrArg (Value.int .u64) (or_shift X d k HX.out (by have := mul_lt8 hd128 (show k ≤ 8 by omega); omega) (by omega))
            · show R = _
              rw [HR'.out, dec_on (by omega) h128, show c - 128 = d by have := HDD.out; omega, Nat.add_assoc]
          case measure => simp [intOf]; omega
        · by_cases h0 : c < 1
          · by_cases hk0 : k < 1
            · go_wp2
              try rw [Exit.noGoto_ret]
              go_ret3
              refine ⟨?_, rfl⟩
              rw [HR'.out, dec_stop (by omega) (by omega) (by omega)]
              refine ret3 (congrArg (Value.int .u64) (or_none X c k (by omega) (by omega))) (congrArg (Value.int .i64) (by omega)) rfl
            · go_wp2
              try rw [Exit.noGoto_ret]
              go_ret3
              exact ⟨by rw [HR'.out, dec_zero (by omega) (by omega)]; rfl, rfl⟩
          · go_wp2
            try rw [Exit.noGoto_ret]
            go_ret3
            refine ⟨?_, rfl⟩
            rw [HR'.out, dec_stop (by omega) (by omega) (by omega)]
            refine ret3 (congrArg (Value.int .u64) (or_shift X c k HX.out ?_ (by omega))) (congrArg (Value.int .i64) (by omega)) rfl
            have := mul_lt8 (show c < 128 by omega) (show k ≤ 8 by omega)
            omega
    · go_wp2
      try rw [Exit.noGoto_ret]
      go_ret3
      have e : R = none := by
        rw [HD.out, List.drop_eq_nil_of_le (by rw [HL.out]; omega)]; rfl
      exact ⟨by rw [e]; rfl, rfl⟩
end Go.Proofs.YtepancmkopifpaaGreatDoor
namespace Go.Proofs.YtepancmkopifpaaGreatDoor
open Go.RowKit

theorem get_nat (A : Option Addr) (len cap : Nat) (bs : List Nat) (p : Nat) (w : World) (hl : bs.length = len) (hB : Bytes w A bs) (hc : len ≤ cap) (hm : cap ≤ maxLen) (hp : p ≤ len) :
    Calls Tryz.prog 61 #[.slice A len cap, .int .i64 (p : Int)] w fun e w' => e = getE p (dec 0 0 (bs.drop p)) ∧ w = w' := by
  by_cases h : p < len
  · obtain ⟨b, off, rfl, hcell⟩ := hB.at_ (by omega)
    exact get_in b off len cap bs p w hl hB.1 hc hm h (by rw [← hl]; exact hcell)
  · obtain rfl : p = len := by omega
    have e : dec 0 0 (bs.drop p) = none := by rw [List.drop_eq_nil_of_le (by omega)]; rfl
    rw [e]
    exact get_end A p cap w hc

theorem get_some {A : Option Addr} {len cap : Nat} {bs : List Nat} {p v k : Nat} {w : World} (hl : bs.length = len) (hB : Bytes w A bs) (hc : len ≤ cap) (hm : cap ≤ maxLen) (hp : p ≤ len)
    (hd : dec 0 0 (bs.drop p) = some (v, k)) :
    Calls Tryz.prog 61 #[.slice A len cap, .int .i64 (p : Int)] w fun e w' => e = .returned (.tuple #[.int .u64 (v : Int), .int .i64 ((p + k : Nat) : Int), .int .i64 0]) ∧ w = w' := by
  have := get_nat A len cap bs p w hl hB hc hm hp
  rw [hd] at this
  exact this

theorem get_none {A : Option Addr} {len cap : Nat} {bs : List Nat} {p : Nat} {w : World} (hl : bs.length = len) (hB : Bytes w A bs) (hc : len ≤ cap) (hm : cap ≤ maxLen) (hp : p ≤ len)
    (hd : dec 0 0 (bs.drop p) = none) :
    Calls Tryz.prog 61 #[.slice A len cap, .int .i64 (p : Int)] w fun e w' => e = .returned (.tuple #[.int .u64 0, .int .i64 (p : Int), .int .i64 2]) ∧ w = w' := by
  have := get_nat A len cap bs p w hl hB hc hm hp
  rw [hd] at this
  exact this

/-- What a row of the call's own that holds bytes gives a reader. -/
theorem Bytes.own {w : World} {base g n cap : Nat} {bs : List Nat} (h : w.ownsRow base 5 1 (.slice (some ⟨g, 0, none⟩) n cap) n (bytesV bs)) (hb : ∀ c ∈ bs, c < 256) :
    Bytes w (some ⟨g, 0, none⟩) bs ∧ bs.length = n ∧ n ≤ cap ∧ cap ≤ maxLen ∧ base ≤ g ∧ g < w.heap.size := by
  have hn : bs.length = n := by have := h.1; rw [bytesV_length] at this; omega
  refine ⟨⟨hb, fun hp => ⟨_, rfl, fun j hj => ?_⟩⟩, hn, ?_⟩
  · refine h.cells (g := g) rfl j _ ?_
    unfold bytesV
    simp [hj]
  · rcases h.2 with ⟨e, _⟩ | ⟨g', cap', cur, e, hbg, hh, h1, h2, _⟩
    · cases e
    · injection e with e1 e2 e3
      injection e1 with e1
      injection e1 with e1
      subst e1 e3
      refine ⟨h1, h2, hbg, ?_⟩
      rcases Nat.lt_or_ge g w.heap.size with hlt | hge
      · exact hlt
      · rw [Array.getElem?_eq_none hge] at hh; cases hh

theorem Bytes.keep {w w' : World} {A : Option Addr} {bs : List Nat} {B : Nat} (h : Bytes w A bs) (hb : Below B w w') (hA : ∀ ad, A = some ad → ad.block < B) : Bytes w' A bs := by
  refine ⟨h.1, fun hp => ?_⟩
  obtain ⟨ad, rfl, hc⟩ := h.2 hp
  refine ⟨ad, rfl, fun j hj => ?_⟩
  rw [← hc j hj]
  refine hb.cell ?_
  have := hA ad rfl
  unfold Addr.add
  split <;> exact this


theorem vfits_i64 {a : Int} (h : (Lit.int .i64 a).wf = true) : -9223372036854775808 ≤ a ∧ a ≤ 9223372036854775807 := by
  simpa [Lit.wf, IntKind.min, IntKind.max, IntKind.bits, IntKind.signed] using h
theorem fits_u64 {a : Int} (h : (Lit.int .u64 a).wf = true) : 0 ≤ a ∧ a ≤ 18446744073709551615 := by
  simpa [Lit.wf, IntKind.min, IntKind.max, IntKind.bits, IntKind.signed] using h
theorem fits_u8 {a : Int} (h : (Lit.int .u8 a).wf = true) : 0 ≤ a ∧ a ≤ 255 := by
  simpa [Lit.wf, IntKind.min, IntKind.max, IntKind.bits, IntKind.signed] using h

/-- A slice of integers that came in: nil, or a row of 'cap' cells, the first 'len' of them its elements. -/
def IsRow (k : IntKind) (w : World) (a : Option Addr) (len cap : Nat) (zs : List Int) : Prop :=
  (a = none ∧ len = 0 ∧ cap = 0 ∧ zs = []) ∨
  ∃ x, a = some x ∧ len ≤ cap ∧ cap ≤ maxLen ∧ zs.length = cap ∧ (∀ i, i < zs.length → w.cell? (x.add i) = some (.int k (zs.getD i 0))) ∧ ∀ n ∈ zs, (Lit.int k n).wf = true

theorem bytesV_set (l : List Nat) (j d : Nat) : (bytesV l).set j (.int .u8 (d : Int)) = bytesV (l.set j d) := by
  unfold bytesV; rw [List.map_set]
theorem bytesV_get (l : List Nat) (j : Nat) (h : j < l.length) : (bytesV l)[j]? = some (.int .u8 ((l.getD j 0 : Nat) : Int)) := by
  unfold bytesV; simp [h]
theorem or128b (c : Nat) (h : c < 256) : bits .or .u8 (c : Int) 128 = ((c % 128 + 128 : Nat) : Int) := by
  have := or128 c
  rw [show (c : Int) % 256 = (c : Int) by omega] at this
  exact this
theorem bytesV_one (l : List Nat) : ∀ u ∈ bytesV l, u.oneCell' = true := by
  intro u hu
  unfold bytesV at hu
  obtain ⟨c, _, rfl⟩ := List.mem_map.1 hu
  rfl
theorem vwrap_nat (a : Int) : ∃ U : Nat, IntKind.u64.wrap a = (U : Int) := by
  refine ⟨(IntKind.u64.wrap a).toNat, ?_⟩
  rw [IntKind.wrap_u64]
  omega
theorem Bytes.take {w : World} {A : Option Addr} {bs : List Nat} (h : Bytes w A bs) (k : Nat) : Bytes w A (bs.take k) := by
  refine ⟨fun c hc => h.1 c (List.mem_of_mem_take hc), fun hp => ?_⟩
  have hp' : 0 < bs.length := by rw [List.length_take] at hp; omega
  obtain ⟨ad, e, hc⟩ := h.2 hp'
  refine ⟨ad, e, fun j hj => ?_⟩
  rw [List.length_take] at hj
  rw [hc j (by omega)]
  congr 3
  rw [List.getD_eq_getElem?_getD, List.getD_eq_getElem?_getD, List.getElem?_take, if_pos (by omega)]

theorem addr0 (g k : Nat) : (⟨g, 0, none⟩ : Addr).add k = ⟨g, k, none⟩ := by
  unfold Addr.add
  split
  · next e => rw [e]
  · simp
/-- Bytes as a string. -/
def strB (bs : List Nat) : ByteArray := strOfNums (bs.map fun c : Nat => (c : Int))

theorem conv_bytes {w : World} {A : Option Addr} {bs : List Nat} (h : Bytes w A bs) (n cap : Nat) (hn : bs.length = n) :
    (convert 26 9 (.slice A n cap)).run Tryz.prog w = .ok (.string (strB bs)) w := by
  by_cases hp : 0 < bs.length
  · obtain ⟨b, off, rfl, hc⟩ := h.at_ hp
    refine run_convert_bytes_arg w 26 5 Tryz.underlying26 Tryz.underlying5 b off n cap _ (by simpa using hn) ?_ 9 Tryz.underlying9
    intro i hi
    rw [hc i (by omega)]
    congr 2
    have : i < bs.length := by omega
    simp [this]
  · have e : bs = [] := List.eq_nil_of_length_eq_zero (by omega)
    subst e
    simp at hn
    subst hn
    rcases A with _ | ⟨b, off, spot⟩
    · exact run_convert_bytes_nil w 26 5 Tryz.underlying26 Tryz.underlying5 0 cap 9 Tryz.underlying9
    · rw [run_convert_bytes_string w 26 9 5 _ 0 cap Tryz.underlying26 Tryz.underlying5 Tryz.underlying9]
      rw [run_bytesToString w _ 0 cap [] (by simp [loadCells, loadCellsFrom])]
      rfl
theorem strB_size (bs : List Nat) : (strB bs).size = bs.length := by unfold strB; rw [strOfNums_size]; simp

theorem Bytes.below {w w' : World} {A : Option Addr} {bs : List Nat} (h : Bytes w A bs) (hb : Below w.heap.size w w') : Bytes w' A bs := by
  refine ⟨h.1, fun hp => ?_⟩
  obtain ⟨ad, rfl, hc⟩ := h.2 hp
  refine ⟨ad, rfl, fun j hj => ?_⟩
  rw [← hc j hj]
  exact hb.cell (World.block_lt_of_cell? w _ (hc j hj))

theorem Bytes.of_row {w : World} {a : Option Addr} {len cap : Nat} {zs : List Int} (h : IsRow .u8 w a len cap zs) :
    ∃ bs : List Nat, bs.length = len ∧ Bytes w a bs ∧ len ≤ cap ∧ cap ≤ maxLen := by
  rcases h with ⟨rfl, rfl, rfl, rfl⟩ | ⟨x, rfl, h1, h2, h3, hc, hw⟩
  · exact ⟨[], rfl, ⟨by simp, fun hp => absurd hp (by decide)⟩, by decide, by decide⟩
  · refine ⟨(zs.take len).map Int.toNat, by simp; omega, ⟨?_, fun hp => ⟨x, rfl, fun j hj => ?_⟩⟩, h1, h2⟩
    · intro c hcm
      obtain ⟨z, hz, rfl⟩ := List.mem_map.1 hcm
      have := fits_u8 (hw z (List.mem_of_mem_take hz))
      omega
    · have hj' : j < len := by simp at hj; omega
      have hjz : j < zs.length := by omega
      rw [hc j hjz]
      have hm : zs.getD j 0 ∈ zs := by
        have e : zs.getD j 0 = zs[j] := by simp [hjz]
        rw [e]; exact List.getElem_mem hjz
      have := fits_u8 (hw _ hm)
      congr 2
      have e : ((zs.take len).map Int.toNat).getD j 0 = (zs.getD j 0).toNat := by
        simp [hj', hjz]
      rw [e]
      omega

theorem vbelowN (w : World) (n : Nat) : Below w.heap.size w (w.drewN n) := ⟨rfl, rfl, rfl, Nat.le_refl _, fun _ _ => rfl⟩
theorem conv_of {w w' : World} {A : Option Addr} {bs : List Nat} {k v len cap : Nat} (h : Bytes w A bs) (e : bs.take k = enc v) (hl : bs.length = len) (hk : k ≤ len) (hb : Below w.heap.size w w') :
    (convert 26 9 (.slice A k cap)).run Tryz.prog w' = .ok (.string (strB (enc v))) w' := by
  rw [← e]
  exact conv_bytes ((h.below hb).take k) k cap (by rw [List.length_take]; omega)
theorem get_z {A : Option Addr} {len cap : Nat} {bs : List Nat} {v k : Nat} {w : World} (hl : bs.length = len) (hB : Bytes w A bs) (hc : len ≤ cap) (hm : cap ≤ maxLen) (hd : dec 0 0 bs = some (v, k)) :
    Calls Tryz.prog 61 #[.slice A len cap, .int .i64 0] w fun e w' => e = .returned (.tuple #[.int .u64 (v : Int), .int .i64 (k : Int), .int .i64 0]) ∧ w = w' := by
  have := get_some (p := 0) hl hB hc hm (Nat.zero_le _) hd
  rw [Nat.zero_add] at this
  exact this
theorem get_y {A : Option Addr} {len cap : Nat} {bs : List Nat} {w : World} (hl : bs.length = len) (hB : Bytes w A bs) (hc : len ≤ cap) (hm : cap ≤ maxLen) (hd : dec 0 0 bs = none) :
    Calls Tryz.prog 61 #[.slice A len cap, .int .i64 0] w fun e w' => e = .returned (.tuple #[.int .u64 0, .int .i64 0, .int .i64 2]) ∧ w = w' :=
  get_none (p := 0) hl hB hc hm (Nat.zero_le _) hd
theorem size_nat (n : Nat) (w : World) (h : n < 18446744073709551616) :
    Calls Tryz.prog 55 #[.int .u64 (n : Int)] w fun e w' => e = .returned (.int .i64 ((enc n).length : Int)) ∧ w = w' := size_any (n : Int) w (by omega) (by omega)
end Go.Proofs.YtepancmkopifpaaGreatDoor
namespace Go.Proofs.YtepancmkopifpaaGreatDoor
open Go.RowKit

theorem refzig_any (m : Int) (w : World) (h0 : -9223372036854775808 ≤ m) (h1 : m ≤ 9223372036854775807) :
    Calls Tryz.prog 56 #[.int .i64 m] w fun e w' => e = .returned (.int .u64 (zig m)) ∧ w = w' := by
  by_cases hm : 0 ≤ m
  · go_enter Tryz.func56, Tryz.ntmps56
    go_wp2
    go_ret
    refine ⟨ret_int ?_, rfl⟩
    unfold zig
    rw [if_pos (by omega)]
    omega
  · go_enter Tryz.func56, Tryz.ntmps56
    go_wp2
    go_ret
    refine ⟨ret_int ?_, rfl⟩
    unfold zig
    rw [if_neg (by omega)]
    omega
theorem refzag_any (n : Int) (w : World) (h0 : 0 ≤ n) (h1 : n ≤ 18446744073709551615) :
    Calls Tryz.prog 65 #[.int .u64 n] w fun e w' => e = .returned (.int .i64 (zag n)) ∧ w = w' := by
  by_cases hn : n % 2 = 0
  · have t : (n % 2 == 0) = true := by simpa using hn
    have HN := Lib.hid hn
    clear hn
    go_enter Tryz.func65, Tryz.ntmps65
    go_wp2
    go_ret
    refine ⟨ret_int ?_, rfl⟩
    unfold zag
    rw [if_pos HN.out]
  · have t : (n % 2 == 0) = false := by simpa using hn
    have HN := Lib.hid hn
    clear hn
    go_enter Tryz.func65, Tryz.ntmps65
    go_wp2
    go_ret
    refine ⟨ret_int ?_, rfl⟩
    unfold zag
    rw [if_neg HN.out]

set_option maxRecDepth 100000 in
theorem refput_any (n : Nat) (w : World) (hn : n < 18446744073709551616) :
    Calls Tryz.prog 24 #[.int .u64 (n : Int)] w fun e w' => e = .returned (.string (strB (enc n))) ∧ Below w.heap.size w w' := by
  obtain ⟨i0, hi, hz0, hz1, hz2⟩ := info_parts Tryz.info5
  go_enter Tryz.func24, Tryz.ntmps24
  go_wp2
  go_loopw [0, 3] (fun s v wr => ∃ (m : Nat) (d : List Nat), s = .int .u64 (m : Int) ∧ m ≤ n ∧ Hid (d ++ enc m = enc n) ∧ wr.ownsRow w.heap.size 5 1 v d.length (bytesV d) ∧ Below w.heap.size w wr)
    (fun s _ _ => (intOf s).toNat)
  case atStart => exact ⟨n, [], rfl, Nat.le_refl _, by exact rfl, World.ownsRow_nil _ _ _ _, Below.refl _ _⟩
  case round =>
    obtain ⟨m, d, rfl, hm, hd, hown, hnx⟩ := hrel
    have hdl := put_len hd.out hn
    have hsz := hnx.size
    by_cases h128 : 128 ≤ m
    · have hb := or128 m
      obtain ⟨c, hc⟩ : ∃ c : Nat, c = m % 128 + 128 := ⟨_, rfl⟩
      rw [← hc] at hb
      have HC := Lib.hid hc
      clear hc
      go_wp2_with (at_builtin; refine wpList_append_own _ rfl _ _ 26 rfl w.heap.size 5 i0 (.int .u8 0) 1 1 Tryz.underlying26 hi hz0 hz1 hz2 rfl (by decide) _ _ _ rfl (hown.alloc _) ⟨wr.heap.size, 0, none⟩ 1 1 [.int .u8 (c : Int)] rfl rfl ?c1 ?c2 ?c3 ?c4 ?c5 ?_)
      case c1 =>
        intro j u hj
        match j, hj with
        | 0, hj => simp at hj; subst hj; simp [Addr.add]
      case c2 => intro u hu; simp at hu; subst hu; rfl
      case c3 => unfold maxLen; omega
      case c4 => omega
      case c5 => simp; omega
      intro v' w1 hown' hgrow _
      clear hb
      go_wp2
      go_roundw
      case rel =>
        refine ⟨m / 128, d ++ [m % 128 + 128], by go_num, by omega, by exact put_step hd.out h128, ?_, ?_⟩
        · rw [HC.out] at hown'
          rw [bytesV_append]
          simpa [bytesV] using hown'
        · exact (hnx.alloc hsz _).grown hgrow (by simp; omega) (fun k h => (hown.lt k h).1)
      case measure => simp [intOf]; omega
    · go_wp2_with (at_builtin; refine wpList_append_own _ rfl _ _ 26 rfl w.heap.size 5 i0 (.int .u8 0) 1 1 Tryz.underlying26 hi hz0 hz1 hz2 rfl (by decide) _ _ _ rfl (hown.alloc _) ⟨wr.heap.size, 0, none⟩ 1 1 [.int .u8 (m : Int)] rfl rfl ?d1 ?d2 ?d3 ?d4 ?d5 ?_)
      case d1 =>
        intro j u hj
        match j, hj with
        | 0, hj => simp at hj; subst hj; simp [Addr.add]
      case d2 => intro u hu; simp at hu; subst hu; rfl
      case d3 => unfold maxLen; omega
      case d4 => omega
      case d5 => simp; omega
      intro v' w1 hown' hgrow hnil
      have hE : d ++ [m] = enc n := by rw [← hd.out, enc_small (by omega)]
      have hB : Below w.heap.size w w1 := (hnx.alloc hsz _).grown hgrow (by simp; omega) (fun k h => (hown.lt k h).1)
      have hL : d.length + 1 = (enc n).length := by rw [← hE]; simp
      rw [show bytesV d ++ [Value.int IntKind.u8 (m : Int)] = bytesV (enc n) by rw [← hE, bytesV_append]; rfl] at hown'
      obtain ⟨g, cap, rfl, _, _⟩ := hown'.form (by omega)
      have hcv := conv_bytes (Bytes.own hown' (enc_byte n)).1 (d.length + 1) cap hL.symm
      clear hE hL hown'
      go_wp2
      go_ret
      exact ⟨rfl, hB⟩
end Go.Proofs.YtepancmkopifpaaGreatDoor
namespace Go.Proofs.YtepancmkopifpaaGreatDoor
open Go.RowKit

theorem refget_neg (s : ByteArray) (p : Int) (w : World) (h : p < 0) :
    Calls Tryz.prog 64 #[.string s, .int .i64 p] w fun e w' => e = .returned (.tuple #[.int .u64 0, .int .i64 p, .int .i64 1]) ∧ w = w' := by
  go_enter Tryz.func64, Tryz.ntmps64
  go_wp2
  go_ret3
  exact ⟨rfl, rfl⟩
theorem refget_far (s : ByteArray) (p : Int) (w : World) (h0 : 0 ≤ p) (h : (s.size : Int) < p) :
    Calls Tryz.prog 64 #[.string s, .int .i64 p] w fun e w' => e = .returned (.tuple #[.int .u64 0, .int .i64 p, .int .i64 1]) ∧ w = w' := by
  go_enter Tryz.func64, Tryz.ntmps64
  go_wp2
  go_ret3
  exact ⟨rfl, rfl⟩

theorem and127w (c : Nat) (h : c < 256) : bits .and .u64 (c : Int) 127 = ((c % 128 : Nat) : Int) := by
  have := bits_mask .u64 64 (by decide) wraps_u64 7 (by decide) (c : Int) (by omega) (by omega)
  rw [show ((127 : Int)) = 2 ^ 7 - 1 from rfl, this]
  omega

set_option maxRecDepth 100000 in
set_option maxHeartbeats 1000000 in
theorem refget_nat (s : ByteArray) (bs : List Nat) (p : Nat) (w : World) (hl : s.size = bs.length) (hb : ∀ c ∈ bs, c < 256) (hm : s.size ≤ 1000) (hp : p ≤ s.size)
    (hx : ∀ j (h : j < s.size), (s[j]'h).toNat = bs.getD j 0) :
    Calls Tryz.prog 64 #[.string s, .int .i64 (p : Int)] w fun e w' => e = getE p (dec 0 0 (bs.drop p)) ∧ w = w' := by
  have HL := Lib.hid hl
  have HB := Lib.hid hb
  have HX := Lib.hid hx
  clear hl hb hx
  obtain ⟨R, hR⟩ : ∃ R, R = dec 0 0 (bs.drop p) := ⟨_, rfl⟩
  rw [← hR]
  have HR := Lib.hid hR
  clear hR
  have t1 : decide ((p : Int) < 0) = false := by simp
  have t2 : decide (s.size < p) = false := by simp; omega
  go_enter Tryz.func64, Tryz.ntmps64
  go_wp2
  go_loop [7, 8] (fun sn si => ∃ (k X : Nat), p + k ≤ s.size ∧ k ≤ 9 ∧ si = .int .i64 (k : Int) ∧ sn = .int .u64 (X : Int) ∧ X < 128 ^ k ∧ Hid (R = dec k X (bs.drop (p + k)))) (fun _ si => s.size - (intOf si).toNat)
  case atStart => exact ⟨0, 0, by omega, by omega, rfl, rfl, by decide, HR⟩
  case round =>
    obtain ⟨k, X, hk, hk9, rfl, rfl, hX, HD⟩ := hrel
    have HXX := Lib.hid hX
    have hX64 : X < 9223372036854775808 := by have := pow_le9 hk9; omega
    clear hX
    by_cases hlt : p + k < s.size
    · have hcl := HX.out (p + k) hlt
      have hc256 := HB.out (bs.getD (p + k) 0) (getD_mem (by rw [← HL.out]; omega))
      have hdr := drop_at (bs := bs) (i := p + k) (by rw [← HL.out]; omega)
      generalize bs.getD (p + k) 0 = c at hcl hc256 hdr
      have hR : R = dec k X (c :: bs.drop (p + k + 1)) := by rw [HD.out, hdr]
      have HR' := Lib.hid hR
      clear hdr hR HD
      have hand := and127w c hc256
      obtain ⟨d, hd⟩ : ∃ d, d = c % 128 := ⟨_, rfl⟩
      rw [← hd] at hand
      have hd128 : d < 128 := by omega
      have HDD := Lib.hid hd
      clear hd
      by_cases h9 : 9 ≤ k
      · have hk0 : 0 < k := by omega
        by_cases h1 : 1 < c
        · go_wp2
          try rw [Exit.noGoto_ret]
          go_ret3
          exact ⟨by rw [HR'.out, dec_out (by omega) h1]; rfl, rfl⟩
        · by_cases h0 : c < 1
          · go_wp2
            go_ret3
            exact ⟨by rw [HR'.out, dec_zero (by omega) hk0]; rfl, rfl⟩
          · go_wp2
            go_ret3
            refine ⟨?_, rfl⟩
            rw [HR'.out, dec_stop (by omega) (by omega) (by omega)]
            refine ret3 (congrArg (Value.int .u64) ?_) (congrArg (Value.int .i64) (by omega)) rfl
            rw [show c = d by have := HDD.out; omega]
            rw [u64_wrap_id _ (by omega) (by have := HDD.out; omega)]
            exact or_nine X d k HXX.out (by omega) (by have := HDD.out; omega)
      · by_cases h128 : 128 ≤ c
        · go_wp2
          go_round
          case rel =>
            refine ⟨k + 1, X + d * 128 ^ k, by omega, by omega, by go_num, ?_, add_lt HXX.out hd128, ?_⟩
            · exact congrArg (Value.int .u64) (or_shift X d k HXX.out (by have := mul_lt8 hd128 (show k ≤ 8 by omega); omega) (by omega))
            · show R = _
              rw [HR'.out, dec_on (by omega) h128, show c - 128 = d by have := HDD.out; omega, Nat.add_assoc]
          case measure => simp [intOf]; omega
        · have hcd : c = d := by have := HDD.out; omega
          have HCD := Lib.hid hcd
          clear hcd
          by_cases h0 : c < 1
          · by_cases hk0 : k < 1
            · go_wp2
              go_ret3
              refine ⟨?_, rfl⟩
              rw [HR'.out, dec_stop (by omega) (by omega) (by omega)]
              refine ret3 (congrArg (Value.int .u64) ?_) (congrArg (Value.int .i64) (by omega)) rfl
              rw [HCD.out]
              first
                | exact or_none X d k (by omega) (by have := HDD.out; omega)
                | exact or_shift X d k HXX.out (by have := mul_lt8 hd128 (show k ≤ 8 by omega); omega) (by omega)
            · go_wp2
              go_ret3
              exact ⟨by rw [HR'.out, dec_zero (by omega) (by omega)]; rfl, rfl⟩
          · go_wp2
            go_ret3
            refine ⟨?_, rfl⟩
            rw [HR'.out, dec_stop (by omega) (by omega) (by omega)]
            refine ret3 (congrArg (Value.int .u64) ?_) (congrArg (Value.int .i64) (by omega)) rfl
            rw [HCD.out]
            exact or_shift X d k HXX.out (by have := mul_lt8 hd128 (show k ≤ 8 by omega); omega) (by omega)
    · go_wp2
      go_ret3
      have e : R = none := by
        rw [HD.out, List.drop_eq_nil_of_le (by rw [← HL.out]; omega)]; rfl
      exact ⟨by rw [e]; rfl, rfl⟩

/-- The bytes of a string made of bytes. -/
theorem strB_get (bs : List Nat) (hb : ∀ c ∈ bs, c < 256) : ∀ j (h : j < (strB bs).size), ((strB bs)[j]'h).toNat = bs.getD j 0 := by
  intro j h
  have hj : j < bs.length := by rw [strB_size] at h; exact h
  have e : (strB bs)[j]'h = UInt8.ofNat (bs.getD j 0) := by
    show (strB bs).data[j] = _
    simp [strB, strOfNums, hj]
  rw [e]
  rw [UInt8.toNat_ofNat']
  exact Nat.mod_eq_of_lt (hb _ (getD_mem hj))
end Go.Proofs.YtepancmkopifpaaGreatDoor
