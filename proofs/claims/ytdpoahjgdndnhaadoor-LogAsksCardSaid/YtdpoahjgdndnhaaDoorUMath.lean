/-
  The plain arithmetic of sums of bytes: how a sum goes on, byte by byte, below the prime; what it tells. No program is named here.
-/
import Init
namespace Go.Proofs.YtdpoahjgdndnhaaDoor

/-- A sum n, gone on with over bytes. -/
def run : Nat → List Nat → Nat
  | n, [] => n
  | n, c :: r => run ((n * 257 + c + 1) % 4294967291) r
/-- The document's More: the beginning is taken below the prime first. -/
def more (s : Nat) (bs : List Nat) : Nat := run (s % 4294967291) bs

theorem run_append (a b : List Nat) : ∀ n, run n (a ++ b) = run (run n a) b := by
  induction a with
  | nil => intro n; rfl
  | cons c r ih => intro n; exact ih _
theorem run_lt (bs : List Nat) : ∀ n, n < 4294967291 → run n bs < 4294967291 := by
  induction bs with
  | nil => intro n h; exact h
  | cons c r ih => intro n _; exact ih _ (by omega)
theorem more_lt (s : Nat) (bs : List Nat) : more s bs < 4294967291 := run_lt bs _ (by omega)
theorem more_append (s : Nat) (a b : List Nat) : more s (a ++ b) = more (more s a) b := by
  unfold more
  have h : run (s % 4294967291) a < 4294967291 := run_lt a _ (by omega)
  rw [run_append, Nat.mod_eq_of_lt h]
theorem more_parts (s k : Nat) (bs : List Nat) : more (more s (bs.take k)) (bs.drop k) = more s bs := by
  rw [← more_append, List.take_append_drop]
theorem more_one (s c : Nat) (h : s < 4294967291) : more s [c] = (s * 257 + c + 1) % 4294967291 := by
  unfold more
  rw [Nat.mod_eq_of_lt h]
  rfl
theorem more_last (s c : Nat) (bs : List Nat) : more s (bs ++ [c]) = (more s bs * 257 + c + 1) % 4294967291 := by
  rw [more_append, more_one _ _ (more_lt s bs)]

theorem step_inj {a b c : Nat} (ha : a < 4294967291) (hb : b < 4294967291) (h : (a * 257 + c + 1) % 4294967291 = (b * 257 + c + 1) % 4294967291) : a = b := by omega
theorem step_tells {n c d : Nat} (hc : c < 256) (hd : d < 256) (h : (n * 257 + c + 1) % 4294967291 = (n * 257 + d + 1) % 4294967291) : c = d := by omega
theorem run_inj (bs : List Nat) : ∀ a b, a < 4294967291 → b < 4294967291 → run a bs = run b bs → a = b := by
  induction bs with
  | nil => intro a b _ _ h; exact h
  | cons c r ih => intro a b ha hb h; exact step_inj ha hb (ih _ _ (by omega) (by omega) h)
theorem swap_tells {n c d : Nat} (hc : c < 256) (hd : d < 256)
    (h : (((n * 257 + c + 1) % 4294967291) * 257 + d + 1) % 4294967291 = (((n * 257 + d + 1) % 4294967291) * 257 + c + 1) % 4294967291) : c = d := by omega

theorem drop_atU {bs : List Nat} {i : Nat} (h : i < bs.length) : bs.drop i = bs.getD i 0 :: bs.drop (i + 1) := by
  rw [List.drop_eq_getElem_cons h]; simp [h]
theorem split_at {bs : List Nat} {i : Nat} (h : i < bs.length) : bs = bs.take i ++ bs.getD i 0 :: bs.drop (i + 1) := by
  rw [← drop_atU h, List.take_append_drop]
theorem set_at {bs : List Nat} {i : Nat} (h : i < bs.length) (d : Nat) : bs.set i d = bs.take i ++ d :: bs.drop (i + 1) := by
  rw [List.set_eq_take_append_cons_drop, if_pos h]

/-- Bytes of one length that are unlike in one byte alone have unlike sums. -/
theorem more_tells {bs : List Nat} {k c s : Nat} (hk : k < bs.length) (hb : ∀ x ∈ bs, x < 256) (hc : c < 256) : more s (bs.set k c) = more s bs ↔ c = bs.getD k 0 := by
  have hm : bs.getD k 0 ∈ bs := by
    have e : bs.getD k 0 = bs[k] := by simp [hk]
    rw [e]; exact List.getElem_mem hk
  have h2 := hb _ hm
  rw [set_at hk]
  constructor
  · intro h
    have e : more s bs = more s (bs.take k ++ bs.getD k 0 :: bs.drop (k + 1)) := by rw [← split_at hk]
    rw [e] at h
    unfold more at h
    rw [run_append, run_append] at h
    simp only [run] at h
    exact step_tells hc h2 (run_inj (bs.drop (k + 1)) _ _ (Nat.mod_lt _ (by decide)) (Nat.mod_lt _ (by decide)) h)
  · intro h
    rw [h, ← split_at hk]

/-- Two bytes side by side that change places change the sum, unless they are alike. -/
theorem more_swaps {bs : List Nat} {k s : Nat} (hk : k + 1 < bs.length) (hb : ∀ x ∈ bs, x < 256) :
    more s ((bs.set k (bs.getD (k + 1) 0)).set (k + 1) (bs.getD k 0)) = more s bs ↔ bs.getD k 0 = bs.getD (k + 1) 0 := by
  have hm : ∀ i, i < bs.length → bs.getD i 0 < 256 := by
    intro i hi
    have e : bs.getD i 0 = bs[i] := by simp [hi]
    rw [e]; exact hb _ (List.getElem_mem hi)
  have h1 := hm k (by omega)
  have h2 := hm (k + 1) hk
  have es : (bs.set k (bs.getD (k + 1) 0)).set (k + 1) (bs.getD k 0) = bs.take k ++ bs.getD (k + 1) 0 :: bs.getD k 0 :: bs.drop (k + 2) := by
    rw [set_at (show k < bs.length by omega), drop_atU hk]
    have hl : (bs.take k).length = k := by rw [List.length_take]; omega
    rw [List.set_append_right _ _ (by omega), hl, show k + 1 - k = 1 by omega]
    rfl
  have eb : bs = bs.take k ++ bs.getD k 0 :: bs.getD (k + 1) 0 :: bs.drop (k + 2) := by
    have := split_at (show k < bs.length by omega)
    rw [drop_atU hk] at this
    exact this
  rw [es]
  constructor
  · intro h
    have e : more s bs = more s (bs.take k ++ bs.getD k 0 :: bs.getD (k + 1) 0 :: bs.drop (k + 2)) := by rw [← eb]
    rw [e] at h
    unfold more at h
    rw [run_append, run_append] at h
    simp only [run] at h
    exact (swap_tells h2 h1 (run_inj (bs.drop (k + 2)) _ _ (Nat.mod_lt _ (by decide)) (Nat.mod_lt _ (by decide)) h)).symm
  · intro h
    rw [h]
    conv => rhs; rw [eb, h]
end Go.Proofs.YtdpoahjgdndnhaaDoor
