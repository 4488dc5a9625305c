/-
  The plain arithmetic of sums of bytes: how a sum goes on, byte by byte, below the prime; what it tells. No program is named here.
  Plain: segments: which may be, their bytes, that no file is another's beginning, that a byte that is turned makes none. No program in it.
  Plain: what bytes say of a segment: just what is a file is read. No program in it.
  Plain: how many bytes segments of samples have. No program in it.
-/
import Init
import Derived.Test.YtepancmkopifpaaGreatDoorBMore
namespace Go.Proofs.YtepancmkopifpaaGreatDoor

/-- A sum n, gone on with over bytes. -/
def run : Nat → List Nat → Nat
  | n, [] => n
  | n, c :: r => run ((n * 257 + c + 1) % 4294967291) r
/-- The document's More: the beginning is taken below the prime first. -/
def more (s : Nat) (bs : List Nat) : Nat := run (s % 4294967291) bs

theorem run_append (a b : List Nat) : ∀ n, run n (a ++ b) = run (run n a) b := by
  induction a with
  | nil => intro n; rfl
  | cons c r ih => intro n; exact ih _
theorem run_lt (bs : List Nat) : ∀ n, n < 4294967291 → run n bs < 4294967291 := by
  induction bs with
  | nil => intro n h; exact h
  | cons c r ih => intro n _; exact ih _ (by omega)
theorem more_lt (s : Nat) (bs : List Nat) : more s bs < 4294967291 := run_lt bs _ (by omega)
theorem more_append (s : Nat) (a b : List Nat) : more s (a ++ b) = more (more s a) b := by
  unfold more
  have h : run (s % 4294967291) a < 4294967291 := run_lt a _ (by omega)
  rw [run_append, Nat.mod_eq_of_lt h]
theorem more_parts (s k : Nat) (bs : List Nat) : more (more s (bs.take k)) (bs.drop k) = more s bs := by
  rw [← more_append, List.take_append_drop]
theorem more_one (s c : Nat) (h : s < 4294967291) : more s [c] = (s * 257 + c + 1) % 4294967291 := by
  unfold more
  rw [Nat.mod_eq_of_lt h]
  rfl
theorem more_last (s c : Nat) (bs : List Nat) : more s (bs ++ [c]) = (more s bs * 257 + c + 1) % 4294967291 := by
  rw [more_append, more_one _ _ (more_lt s bs)]

theorem step_inj {a b c : Nat} (ha : a < 4294967291) (hb : b < 4294967291) (h : (a * 257 + c + 1) % 4294967291 = (b * 257 + c + 1) % 4294967291) : a = b := by omega
theorem step_tells {n c d : Nat} (hc : c < 256) (hd : d < 256) (h : (n * 257 + c + 1) % 4294967291 = (n * 257 + d + 1) % 4294967291) : c = d := by omega
theorem run_inj (bs : List Nat) : ∀ a b, a < 4294967291 → b < 4294967291 → run a bs = run b bs → a = b := by
  induction bs with
  | nil => intro a b _ _ h; exact h
  | cons c r ih => intro a b ha hb h; exact step_inj ha hb (ih _ _ (by omega) (by omega) h)
theorem swap_tells {n c d : Nat} (hc : c < 256) (hd : d < 256)
    (h : (((n * 257 + c + 1) % 4294967291) * 257 + d + 1) % 4294967291 = (((n * 257 + d + 1) % 4294967291) * 257 + c + 1) % 4294967291) : c = d := by omega

theorem drop_at {bs : List Nat} {i : Nat} (h : i < bs.length) : bs.drop i = bs.getD i 0 :: bs.drop (i + 1) := by
  rw [List.drop_eq_getElem_cons h]; simp [h]
theorem split_at {bs : List Nat} {i : Nat} (h : i < bs.length) : bs = bs.take i ++ bs.getD i 0 :: bs.drop (i + 1) := by
  rw [← drop_at h, List.take_append_drop]
theorem set_at {bs : List Nat} {i : Nat} (h : i < bs.length) (d : Nat) : bs.set i d = bs.take i ++ d :: bs.drop (i + 1) := by
  rw [List.set_eq_take_append_cons_drop, if_pos h]

/-- Bytes of one length that are unlike in one byte alone have unlike sums. -/
theorem more_tells {bs : List Nat} {k c s : Nat} (hk : k < bs.length) (hb : ∀ x ∈ bs, x < 256) (hc : c < 256) : more s (bs.set k c) = more s bs ↔ c = bs.getD k 0 := by
  have hm : bs.getD k 0 ∈ bs := by
    have e : bs.getD k 0 = bs[k] := by simp [hk]
    rw [e]; exact List.getElem_mem hk
  have h2 := hb _ hm
  rw [set_at hk]
  constructor
  · intro h
    have e : more s bs = more s (bs.take k ++ bs.getD k 0 :: bs.drop (k + 1)) := by rw [← split_at hk]
    rw [e] at h
    unfold more at h
    rw [run_append, run_append] at h
    simp only [run] at h
    exact step_tells hc h2 (run_inj (bs.drop (k + 1)) _ _ (Nat.mod_lt _ (by decide)) (Nat.mod_lt _ (by decide)) h)
  · intro h
    rw [h, ← split_at hk]

/-- Two bytes side by side that change places change the sum, unless they are alike. -/
theorem more_swaps {bs : List Nat} {k s : Nat} (hk : k + 1 < bs.length) (hb : ∀ x ∈ bs, x < 256) :
    more s ((bs.set k (bs.getD (k + 1) 0)).set (k + 1) (bs.getD k 0)) = more s bs ↔ bs.getD k 0 = bs.getD (k + 1) 0 := by
  have hm : ∀ i, i < bs.length → bs.getD i 0 < 256 := by
    intro i hi
    have e : bs.getD i 0 = bs[i] := by simp [hi]
    rw [e]; exact hb _ (List.getElem_mem hi)
  have h1 := hm k (by omega)
  have h2 := hm (k + 1) hk
  have es : (bs.set k (bs.getD (k + 1) 0)).set (k + 1) (bs.getD k 0) = bs.take k ++ bs.getD (k + 1) 0 :: bs.getD k 0 :: bs.drop (k + 2) := by
    rw [set_at (show k < bs.length by omega), drop_at hk]
    have hl : (bs.take k).length = k := by rw [List.length_take]; omega
    rw [List.set_append_right _ _ (by omega), hl, show k + 1 - k = 1 by omega]
    rfl
  have eb : bs = bs.take k ++ bs.getD k 0 :: bs.getD (k + 1) 0 :: bs.drop (k + 2) := by
    have := split_at (show k < bs.length by omega)
    rw [drop_at hk] at this
    exact this
  rw [es]
  constructor
  · intro h
    have e : more s bs = more s (bs.take k ++ bs.getD k 0 :: bs.getD (k + 1) 0 :: bs.drop (k + 2)) := by rw [← eb]
    rw [e] at h
    unfold more at h
    rw [run_append, run_append] at h
    simp only [run] at h
    exact (swap_tells h2 h1 (run_inj (bs.drop (k + 2)) _ _ (Nat.mod_lt _ (by decide)) (Nat.mod_lt _ (by decide)) h)).symm
  · intro h
    rw [h]
    conv => rhs; rw [eb, h]
end Go.Proofs.YtepancmkopifpaaGreatDoor
namespace Go.Proofs.YtepancmkopifpaaGreatDoor
set_option linter.unusedVariables false

/-- A segment. -/
structure Sg where
  id : Int
  tier : Int
  fr : Int
  tz : Int
  sm : List (Int × Int)
  ag : List Ag
/-- What a segment has, by its tier. -/
def Sg.has_ (s : Sg) : Prop :=
  if s.tier = 0 then s.ag = [] ∧ 0 < s.sm.length ∧ s.sm.length ≤ 64 ∧ Rise s.sm ∧ ∀ x ∈ s.sm, s.fr ≤ x.1 ∧ x.1 < s.tz
  else s.sm = [] ∧ 0 < s.ag.length ∧ s.ag.length ≤ 64 ∧ Align s.ag s.tier ∧ ∀ a ∈ s.ag, flr s.fr s.tier ≤ a.fr ∧ a.fr < s.tz
def Sg.may (s : Sg) : Prop := (1 ≤ s.id ∧ s.id ≤ 1073741824) ∧ (0 ≤ s.tier ∧ s.tier ≤ 3) ∧ (0 ≤ s.fr ∧ s.fr < s.tz ∧ s.tz ≤ 1099511627776) ∧ s.has_
def Sg.ok (s : Sg) : Prop := In64 s.id ∧ In64 s.tier ∧ In64 s.fr ∧ In64 s.tz ∧ BIn s.sm ∧ AIn s.ag
/-- What stands behind the numbers. -/
def Sg.block (s : Sg) : List Nat := if s.tier = 0 then putB s.sm else putA (wid s.tier) s.ag
/-- The bytes ahead of the sum. -/
def Sg.body (s : Sg) : List Nat := [84, 75] ++ bytesOf [s.id.toNat, s.tier.toNat, s.fr.toNat, (s.tz - s.fr).toNat] ++ s.block
/-- Four bytes of a sum, the lowest first. -/
def four (n : Nat) : List Nat := [n % 256, n / 256 % 256, n / 65536 % 256, n / 16777216 % 256]
def Sg.bytes (s : Sg) : List Nat := s.body ++ four (more 1 s.body)
/-- b is what Put makes of s. -/
def IsFile (b : List Nat) (s : Sg) : Prop := s.may ∧ s.ok ∧ s.bytes = b ∧ b.length ≤ 4000

theorem four_len (n : Nat) : (four n).length = 4 := rfl
theorem four_inj {a b : Nat} (ha : a < 4294967296) (hb : b < 4294967296) (h : four a = four b) : a = b := by
  unfold four at h
  injection h with h1 h
  injection h with h2 h
  injection h with h3 h
  injection h with h4 h
  omega
theorem four_byte (n : Nat) : ∀ c ∈ four n, c < 256 := by
  intro c hc
  simp only [four, List.mem_cons, List.not_mem_nil, or_false] at hc
  omega
theorem more32 (s : Nat) (b : List Nat) : more s b < 4294967296 := by have := more_lt s b; omega
theorem block_byte (s : Sg) : ∀ c ∈ s.block, c < 256 := by
  unfold Sg.block
  split
  · exact putB_byte _
  · exact putA_byte _ _
theorem body_byte (s : Sg) : ∀ c ∈ s.body, c < 256 := by
  intro c hc
  unfold Sg.body at hc
  rw [List.mem_append, List.mem_append] at hc
  rcases hc with (hc | hc) | hc
  · simp only [List.mem_cons, List.not_mem_nil, or_false] at hc
    omega
  · exact bytesOf_byte _ c hc
  · exact block_byte s c hc
theorem bytes_byte (s : Sg) : ∀ c ∈ s.bytes, c < 256 := by
  intro c hc
  unfold Sg.bytes at hc
  rw [List.mem_append] at hc
  rcases hc with hc | hc
  · exact body_byte s c hc
  · exact four_byte _ c hc

/-- A code that nothing may stand behind: no word is another's beginning. -/
theorem code_pre {α : Type} {put : α → List Nat} {get : List Nat → Option α} {ok : α → Prop} (h1 : ∀ a, ok a → get (put a) = some a) (h2 : ∀ a x, ok a → x ≠ [] → get (put a ++ x) = none) {a b : α} (ha : ok a) (hb : ok b) {y z : List Nat} (h : put a ++ y = put b ++ z) : a = b ∧ y = z := by
  have key : ∀ {a b : α}, ok a → ok b → ∀ c, put b = put a ++ c → a = b ∧ c = [] := fun {a b} ha hb c e => by
    by_cases hc : c = []
    · rw [hc, List.append_nil] at e
      have := h1 b hb
      rw [e, h1 a ha] at this
      exact ⟨Option.some.inj this, hc⟩
    · have := h2 a c ha hc
      rw [← e, h1 b hb] at this
      cases this
  rcases List.append_eq_append_iff.1 h with ⟨c, e1, e2⟩ | ⟨c, e1, e2⟩
  · obtain ⟨r1, r2⟩ := key ha hb c e1
    rw [r2] at e2
    exact ⟨r1, e2⟩
  · obtain ⟨r1, r2⟩ := key hb ha c e1
    rw [r2] at e2
    exact ⟨r1.symm, e2.symm⟩
theorem putB_pre {a b : List (Int × Int)} (ha : BOk a ∧ BIn a) (hb : BOk b ∧ BIn b) {y z : List Nat} (h : putB a ++ y = putB b ++ z) : a = b ∧ y = z :=
  code_pre (put := putB) (get := getB) (ok := fun a => BOk a ∧ BIn a) (fun a h => getB_putB h.1 h.2) (fun a x h hx => getB_behind h.1 h.2 hx) ha hb h
theorem putA_pre {k : Int} {a b : List Ag} (ha : AOk k a ∧ AIn a) (hb : AOk k b ∧ AIn b) {y z : List Nat} (h : putA (wid k) a ++ y = putA (wid k) b ++ z) : a = b ∧ y = z :=
  code_pre (put := putA (wid k)) (get := getA (wid k)) (ok := fun a => AOk k a ∧ AIn a) (fun a h => getA_putA h.1 h.2) (fun a x h hx => getA_behind h.1 h.2 hx) ha hb h
theorem enc_pre {a b : Nat} (ha : a < 18446744073709551616) (hb : b < 18446744073709551616) {y z : List Nat} (h : enc a ++ y = enc b ++ z) : a = b ∧ y = z := by
  have h1 := rd_enc y ha
  rw [h, rd_enc z hb] at h1
  injection h1 with h1
  injection h1 with e1 e2
  exact ⟨e1.symm, e2.symm⟩

/-- A segment's block is its samples' or its windows', as they may be. -/
theorem has_zero {s : Sg} (h : s.has_) (ho : s.ok) (h0 : s.tier = 0) : s.block = putB s.sm ∧ (BOk s.sm ∧ BIn s.sm) ∧ s.ag = [] := by
  unfold Sg.has_ at h
  rw [if_pos h0] at h
  unfold Sg.block
  rw [if_pos h0]
  exact ⟨rfl, ⟨⟨h.2.2.2.1, h.2.2.1⟩, ho.2.2.2.2.1⟩, h.1⟩
theorem has_more {s : Sg} (h : s.has_) (ho : s.ok) (h0 : s.tier ≠ 0) : s.block = putA (wid s.tier) s.ag ∧ (AOk s.tier s.ag ∧ AIn s.ag) ∧ s.sm = [] := by
  unfold Sg.has_ at h
  rw [if_neg h0] at h
  unfold Sg.block
  rw [if_neg h0]
  exact ⟨rfl, ⟨⟨h.2.2.2.1, h.2.2.1⟩, ho.2.2.2.2.2⟩, h.1⟩
/-- Bodies with something behind: the segments are one, and what stands behind. -/
theorem body_pre {s t : Sg} (hs : s.may) (hos : s.ok) (ht : t.may) (hot : t.ok) {y z : List Nat} (h : s.body ++ y = t.body ++ z) : s = t ∧ y = z := by
  obtain ⟨id, tier, fr, tz, sm, ag⟩ := s
  obtain ⟨id', tier', fr', tz', sm', ag'⟩ := t
  obtain ⟨⟨a1, a2⟩, ⟨a3, a4⟩, ⟨a5, a6, a7⟩, a8⟩ := hs
  obtain ⟨⟨b1, b2⟩, ⟨b3, b4⟩, ⟨b5, b6, b7⟩, b8⟩ := ht
  simp only at a1 a2 a3 a4 a5 a6 a7 b1 b2 b3 b4 b5 b6 b7
  unfold Sg.body at h
  simp only [bytesOf_cons, List.append_assoc, List.cons_append, List.nil_append] at h
  injection h with _ h
  injection h with _ h
  obtain ⟨e1, h⟩ := enc_pre (by omega) (by omega) h
  obtain ⟨e2, h⟩ := enc_pre (by omega) (by omega) h
  obtain ⟨e3, h⟩ := enc_pre (by omega) (by omega) h
  obtain ⟨e4, h⟩ := enc_pre (by omega) (by omega) h
  obtain rfl : id = id' := by omega
  obtain rfl : tier = tier' := by omega
  obtain rfl : fr = fr' := by omega
  obtain rfl : tz = tz' := by omega
  simp only [bytesOf, List.flatMap_nil, List.nil_append] at h
  by_cases h0 : tier = 0
  · obtain ⟨p1, p2, p3⟩ := has_zero a8 hos h0
    obtain ⟨q1, q2, q3⟩ := has_zero b8 hot h0
    rw [p1, q1] at h
    obtain ⟨r1, r2⟩ := putB_pre p2 q2 h
    simp only at r1 p3 q3
    subst r1 p3 q3
    exact ⟨rfl, r2⟩
  · obtain ⟨p1, p2, p3⟩ := has_more a8 hos h0
    obtain ⟨q1, q2, q3⟩ := has_more b8 hot h0
    rw [p1, q1] at h
    obtain ⟨r1, r2⟩ := putA_pre p2 q2 h
    simp only at r1 p3 q3
    subst r1 p3 q3
    exact ⟨rfl, r2⟩
/-- No file is another's beginning. -/
theorem file_pre {b c : List Nat} {s t : Sg} (hs : IsFile b s) (ht : IsFile c t) {y z : List Nat} (h : b ++ y = c ++ z) : s = t ∧ y = z := by
  obtain ⟨m1, o1, e1, _⟩ := hs
  obtain ⟨m2, o2, e2, _⟩ := ht
  subst e1 e2
  unfold Sg.bytes at h
  rw [List.append_assoc, List.append_assoc] at h
  obtain ⟨r1, r2⟩ := body_pre m1 o1 m2 o2 h
  subst r1
  exact ⟨rfl, List.append_cancel_left r2⟩
theorem file_uniq {b : List Nat} {s t : Sg} (hs : IsFile b s) (ht : IsFile b t) : s = t := (file_pre (y := []) (z := []) hs ht rfl).1
theorem file_cut {b : List Nat} {s t : Sg} (hs : IsFile b s) {k : Nat} (hk : k < b.length) : ¬ IsFile (b.take k) t := by
  intro ht
  have h := file_pre (y := []) (z := b.drop k) hs ht (by rw [List.append_nil, List.take_append_drop])
  have := congrArg List.length h.2
  simp at this
  omega
theorem file_behind {b : List Nat} {s t : Sg} (hs : IsFile b s) {x : List Nat} (hx : x ≠ []) : ¬ IsFile (b ++ x) t := by
  intro ht
  have h := file_pre (y := x) (z := []) hs ht (by rw [List.append_nil])
  exact hx h.2
theorem bytes_len (s : Sg) : s.bytes.length = s.body.length + 4 := by unfold Sg.bytes; rw [List.length_append, four_len]
/-- A byte that is turned makes no file. -/
theorem file_turned {b : List Nat} {s t : Sg} (hs : IsFile b s) {k c : Nat} (hk : k < b.length) (hc : c < 256) (hne : c ≠ b.getD k 0) : ¬ IsFile (b.set k c) t := by
  intro ht
  obtain ⟨m1, o1, e1, _⟩ := hs
  obtain ⟨m2, o2, e2, _⟩ := ht
  have hl : t.bytes.length = s.bytes.length := by rw [e2, List.length_set, e1]
  rw [bytes_len, bytes_len] at hl
  have hl2 : t.body.length = s.body.length := by omega
  rw [← e1] at e2 hk hne
  unfold Sg.bytes at e2 hk hne
  rw [List.length_append, four_len] at hk
  by_cases hb : k < s.body.length
  · rw [List.set_append_left _ _ hb] at e2
    obtain ⟨p1, p2⟩ := List.append_inj e2 (by rw [List.length_set]; exact hl2)
    have p3 := four_inj (more32 _ _) (more32 _ _) p2
    rw [p1, more_tells hb (body_byte s) hc] at p3
    rw [List.getD_eq_getElem?_getD, List.getElem?_append_left hb, ← List.getD_eq_getElem?_getD] at hne
    exact hne p3
  · rw [List.set_append_right _ _ (by omega)] at e2
    obtain ⟨p1, p2⟩ := List.append_inj e2 hl2
    rw [p1] at p2
    have p4 := congrArg (fun l => l.getD (k - s.body.length) 0) p2
    rw [List.getD_eq_getElem?_getD, List.getD_eq_getElem?_getD, List.getElem?_set_self (by rw [four_len]; omega)] at p4
    rw [List.getD_eq_getElem?_getD, List.getElem?_append_right (by omega)] at hne
    exact hne p4.symm
end Go.Proofs.YtepancmkopifpaaGreatDoor
namespace Go.Proofs.YtepancmkopifpaaGreatDoor
set_option linter.unusedVariables false

instance sgHasDec (s : Sg) : Decidable s.has_ := by unfold Sg.has_; infer_instance
instance sgMayDec (s : Sg) : Decidable s.may := by unfold Sg.may; infer_instance

/-- Four numbers, and what stands behind them. -/
def nums4 (b : List Nat) : Option (Nat × Nat × Nat × Nat × List Nat) :=
  match rd b with
  | none => none
  | some (i, b) => match rd b with
    | none => none
    | some (k, b) => match rd b with
      | none => none
      | some (f, b) => match rd b with
        | none => none
        | some (g, b) => some (i, k, f, g, b)
theorem nums4_put {i k f g : Nat} (r : List Nat) (hi : i < 18446744073709551616) (hk : k < 18446744073709551616) (hf : f < 18446744073709551616) (hg : g < 18446744073709551616) : nums4 (bytesOf [i, k, f, g] ++ r) = some (i, k, f, g, r) := by
  unfold nums4
  simp only [bytesOf_cons, List.append_assoc]
  rw [rd_enc _ hi]
  simp only
  rw [rd_enc _ hk]
  simp only
  rw [rd_enc _ hf]
  simp only
  rw [rd_enc _ hg]
  rfl
theorem nums4_only {b r : List Nat} {i k f g : Nat} (hb : ∀ c ∈ b, c < 256) (h : nums4 b = some (i, k, f, g, r)) : b = bytesOf [i, k, f, g] ++ r ∧ (i < 18446744073709551616 ∧ k < 18446744073709551616 ∧ f < 18446744073709551616 ∧ g < 18446744073709551616) ∧ ∀ c ∈ r, c < 256 := by
  unfold nums4 at h
  cases e1 : rd b with
  | none => rw [e1] at h; cases h
  | some x1 =>
    obtain ⟨i', b1⟩ := x1
    rw [e1] at h
    simp only at h
    obtain ⟨p1, q1, s1⟩ := rd_only hb e1
    cases e2 : rd b1 with
    | none => rw [e2] at h; cases h
    | some x2 =>
      obtain ⟨k', b2⟩ := x2
      rw [e2] at h
      simp only at h
      obtain ⟨p2, q2, s2⟩ := rd_only s1 e2
      cases e3 : rd b2 with
      | none => rw [e3] at h; cases h
      | some x3 =>
        obtain ⟨f', b3⟩ := x3
        rw [e3] at h
        simp only at h
        obtain ⟨p3, q3, s3⟩ := rd_only s2 e3
        cases e4 : rd b3 with
        | none => rw [e4] at h; cases h
        | some x4 =>
          obtain ⟨g', b4⟩ := x4
          rw [e4] at h
          simp only at h
          obtain ⟨p4, q4, s4⟩ := rd_only s3 e4
          injection h with h
          injection h with h1 h
          injection h with h2 h
          injection h with h3 h
          injection h with h4 h
          subst h1 h2 h3 h4 h
          refine ⟨?_, ⟨q1, q2, q3, q4⟩, s4⟩
          rw [p1, p2, p3, p4]
          simp [bytesOf]

/-- What stands behind the numbers, read as the tier's. -/
def readBlk (i k f g : Nat) (r : List Nat) : Option Sg :=
  if k = 0 then (getB r).map fun l => ⟨i, 0, f, (f : Int) + g, l, []⟩
  else if k ≤ 3 then (getA (wid k) r).map fun l => ⟨i, k, f, (f : Int) + g, [], l⟩ else none
/-- What bytes ahead of the sum say. -/
def readC (c : List Nat) : Option Sg :=
  match nums4 (c.drop 2) with
  | none => none
  | some (i, k, f, g, r) => match readBlk i k f g r with
    | none => none
    | some s => if s.may then some s else none
/-- What bytes say. -/
def readS (b : List Nat) : Option Sg :=
  if b.length < 6 ∨ 4000 < b.length ∨ b.take 2 ≠ [84, 75] ∨ four (more 1 (b.take (b.length - 4))) ≠ b.drop (b.length - 4) then none else readC (b.take (b.length - 4))

theorem readBlk_put {s : Sg} (hm : s.may) (ho : s.ok) : readBlk s.id.toNat s.tier.toNat s.fr.toNat (s.tz - s.fr).toNat s.block = some s := by
  obtain ⟨⟨a1, a2⟩, ⟨a3, a4⟩, ⟨a5, a6, a7⟩, a8⟩ := hm
  unfold readBlk
  by_cases h0 : s.tier = 0
  · obtain ⟨p1, p2, p3⟩ := has_zero a8 ho h0
    rw [if_pos (by omega), p1, getB_putB p2.1 p2.2]
    obtain ⟨id, tier, fr, tz, sm, ag⟩ := s
    simp only at *
    subst p3 h0
    simp only [Option.map_some, Option.some.injEq, Sg.mk.injEq, and_true, true_and]
    omega
  · obtain ⟨p1, p2, p3⟩ := has_more a8 ho h0
    have e : ((s.tier.toNat : Nat) : Int) = s.tier := by omega
    rw [if_neg (by omega), if_pos (by omega), e, p1, getA_putA p2.1 p2.2]
    obtain ⟨id, tier, fr, tz, sm, ag⟩ := s
    simp only at *
    subst p3
    simp only [Option.map_some, Option.some.injEq, Sg.mk.injEq, and_true, true_and]
    omega
theorem readC_body {s : Sg} (hm : s.may) (ho : s.ok) : readC s.body = some s := by
  have hm' := hm
  obtain ⟨⟨a1, a2⟩, ⟨a3, a4⟩, ⟨a5, a6, a7⟩, a8⟩ := hm
  unfold readC
  have e : s.body.drop 2 = bytesOf [s.id.toNat, s.tier.toNat, s.fr.toNat, (s.tz - s.fr).toNat] ++ s.block := by
    unfold Sg.body
    simp
  rw [e, nums4_put s.block (by omega) (by omega) (by omega) (by omega)]
  simp only
  rw [readBlk_put hm' ho]
  simp only
  rw [if_pos hm']
theorem readBlk_only {i k f g : Nat} {r : List Nat} {s : Sg} (hb : ∀ c ∈ r, c < 256) (h : readBlk i k f g r = some s) : s.id = i ∧ s.tier = k ∧ s.fr = f ∧ s.tz = (f : Int) + g ∧ s.block = r ∧ BIn s.sm ∧ AIn s.ag := by
  unfold readBlk at h
  by_cases h0 : k = 0
  · rw [if_pos h0] at h
    cases e : getB r with
    | none => rw [e] at h; cases h
    | some l =>
      rw [e] at h
      simp only [Option.map_some, Option.some.injEq] at h
      subst h
      obtain ⟨p1, p2, p3⟩ := putB_getB hb e
      refine ⟨rfl, by simp only; omega, rfl, rfl, ?_, p3, fun a ha => by simp at ha⟩
      unfold Sg.block
      rw [if_pos rfl]
      exact p1
  · rw [if_neg h0] at h
    by_cases h3 : k ≤ 3
    · rw [if_pos h3] at h
      cases e : getA (wid k) r with
      | none => rw [e] at h; cases h
      | some l =>
        rw [e] at h
        simp only [Option.map_some, Option.some.injEq] at h
        subst h
        obtain ⟨p1, p2, p3⟩ := putA_getA (k := (k : Int)) ⟨by omega, by omega⟩ hb e
        refine ⟨rfl, rfl, rfl, rfl, ?_, fun a ha => by simp at ha, p3⟩
        unfold Sg.block
        rw [if_neg (by simp only; omega)]
        exact p1
    · rw [if_neg h3] at h
      cases h
theorem readC_only {c : List Nat} {s : Sg} (hb : ∀ x ∈ c, x < 256) (h2 : c.take 2 = [84, 75]) (h : readC c = some s) : s.may ∧ s.ok ∧ s.body = c := by
  unfold readC at h
  cases e : nums4 (c.drop 2) with
  | none => rw [e] at h; cases h
  | some x =>
    obtain ⟨i, k, f, g, r⟩ := x
    rw [e] at h
    simp only at h
    obtain ⟨p1, p2, p3⟩ := nums4_only (fun x hx => hb x (List.mem_of_mem_drop hx)) e
    cases e2 : readBlk i k f g r with
    | none => rw [e2] at h; cases h
    | some s' =>
      rw [e2] at h
      simp only at h
      by_cases hm : s'.may
      · rw [if_pos hm] at h
        injection h with h
        subst h
        obtain ⟨q1, q2, q3, q4, q5, q6, q7⟩ := readBlk_only p3 e2
        have hm' := hm
        obtain ⟨⟨a1, a2⟩, ⟨a3, a4⟩, ⟨a5, a6, a7⟩, a8⟩ := hm'
        refine ⟨hm, ⟨by unfold In64; omega, by unfold In64; omega, by unfold In64; omega, by unfold In64; omega, q6, q7⟩, ?_⟩
        unfold Sg.body
        rw [q5, q1, q2, q3, show (s'.tz - (f : Int)).toNat = g by omega, Int.toNat_natCast, Int.toNat_natCast, Int.toNat_natCast, List.append_assoc, ← p1, ← h2, List.take_append_drop]
      · rw [if_neg hm] at h
        cases h
/-- Just what is a file is read. -/
theorem readS_iff {b : List Nat} {s : Sg} (hb : ∀ c ∈ b, c < 256) : readS b = some s ↔ IsFile b s := by
  constructor
  · intro h
    unfold readS at h
    split at h
    · cases h
    · next hn =>
      have h6 : 6 ≤ b.length := by
        rcases Nat.lt_or_ge b.length 6 with e | e
        · exact absurd (.inl e) hn
        · exact e
      have h4000 : b.length ≤ 4000 := by
        rcases Nat.lt_or_ge 4000 b.length with e | e
        · exact absurd (.inr (.inl e)) hn
        · exact e
      have h2 : b.take 2 = [84, 75] := by
        by_cases e : b.take 2 = [84, 75]
        · exact e
        · exact absurd (.inr (.inr (.inl e))) hn
      have h4 : four (more 1 (b.take (b.length - 4))) = b.drop (b.length - 4) := by
        by_cases e : four (more 1 (b.take (b.length - 4))) = b.drop (b.length - 4)
        · exact e
        · exact absurd (.inr (.inr (.inr e))) hn
      obtain ⟨p1, p2, p3⟩ := readC_only (fun x hx => hb x (List.mem_of_mem_take hx)) (by rw [List.take_take, Nat.min_eq_left (by omega)]; exact h2) h
      refine ⟨p1, p2, ?_, h4000⟩
      unfold Sg.bytes
      rw [p3, h4, List.take_append_drop]
  · rintro ⟨hm, ho, e, h4000⟩
    have hl := bytes_len s
    rw [e] at hl
    have hbl : 2 ≤ s.body.length := by unfold Sg.body; simp only [List.length_append, List.length_cons]; omega
    have e1 : b.take (b.length - 4) = s.body := by
      rw [← e, bytes_len]
      unfold Sg.bytes
      rw [show s.body.length + 4 - 4 = s.body.length by omega, List.take_left]
    have e2 : b.drop (b.length - 4) = four (more 1 s.body) := by
      rw [← e, bytes_len]
      unfold Sg.bytes
      rw [show s.body.length + 4 - 4 = s.body.length by omega, List.drop_left]
    have e3 : b.take 2 = [84, 75] := by
      rw [← e]
      unfold Sg.bytes Sg.body
      simp
    unfold readS
    rw [e1, e2, e3, if_neg (by
      rintro (h | h | h | h)
      · omega
      · omega
      · exact h rfl
      · exact h rfl)]
    exact readC_body hm ho
theorem readS_none {b : List Nat} (hb : ∀ c ∈ b, c < 256) (h : ∀ s, ¬ IsFile b s) : readS b = none := by
  cases e : readS b with
  | none => rfl
  | some s => exact absurd ((readS_iff hb).1 e) (h s)
end Go.Proofs.YtepancmkopifpaaGreatDoor
namespace Go.Proofs.YtepancmkopifpaaGreatDoor
set_option linter.unusedVariables false

theorem bytesOf_ten : ∀ (l : List Nat), (∀ n ∈ l, n < 18446744073709551616) → (bytesOf l).length ≤ 10 * l.length
  | [], _ => by simp [bytesOf]
  | n :: l, h => by
    have h1 := enc_len_le (h n (by simp))
    have h2 := bytesOf_ten l (fun m hm => h m (by simp [hm]))
    rw [bytesOf_cons, List.length_append, List.length_cons]
    omega
theorem sOn_num : ∀ (l : List (Int × Int)) (t s v : Int), RiseOn t l → BIn l → 0 ≤ t → t ≤ 1099511627776 → 0 ≤ s → s ≤ 1099511627776 → (∀ n ∈ sOn t s v l, n < 18446744073709551616) ∧ (sOn t s v l).length = 2 * l.length
  | [], t, s, v, _, _, _, _, _, _ => ⟨fun n hn => by simp [sOn] at hn, rfl⟩
  | x :: r, t, s, v, h, hi, h0, h1, h2, h3 => by
    obtain ⟨ha, hb, hr⟩ := h
    have hx := hi x (by simp)
    obtain ⟨_, z2⟩ := zig_nat (m := x.1 - t - s) (by unfold In64; omega)
    obtain ⟨_, z4⟩ := zig_nat (w64_in (x.2 - v))
    obtain ⟨p, q⟩ := sOn_num r x.1 (x.1 - t) x.2 hr (fun y hy => hi y (by simp [hy])) (by omega) (by omega) (by omega) (by omega)
    rw [sOn]
    refine ⟨fun n hn => ?_, by simp only [List.length_cons, q]; omega⟩
    rw [List.mem_cons, List.mem_cons] at hn
    rcases hn with rfl | rfl | hn
    · exact z2
    · exact z4
    · exact p n hn
theorem putB_len {l : List (Int × Int)} (h : BOk l) (hi : BIn l) : (putB l).length ≤ 10 * (2 * l.length + 1) := by
  have hr := (rise_iff l).1 h.1
  have hl := h.2
  unfold putB
  match l, hr, hi, hl with
  | [], _, _, _ => exact bytesOf_ten (sNums []) (fun n hn => by simp [sNums] at hn; omega)
  | x :: r, h, hi, hl =>
    obtain ⟨h0, h1, hr⟩ := h
    have hx := hi x (by simp)
    obtain ⟨_, z2⟩ := zig_nat hx.2
    have hl' : r.length + 1 ≤ 64 := by simpa using hl
    obtain ⟨p, q⟩ := sOn_num r x.1 0 x.2 hr (fun y hy => hi y (by simp [hy])) h0 h1 (Int.le_refl 0) (by decide)
    have := bytesOf_ten (sNums (x :: r)) (fun n hn => by
      rw [sNums, List.mem_cons, List.mem_cons, List.mem_cons] at hn
      rcases hn with rfl | rfl | rfl | hn
      · omega
      · omega
      · exact z2
      · exact p n hn)
    have e : (sNums (x :: r)).length = 2 * (x :: r).length + 1 := by
      rw [sNums]
      simp only [List.length_cons, q]
      omega
    rw [e] at this
    exact this
/-- A segment of samples has room for its bytes. -/
theorem tier0_len {s : Sg} (hm : s.may) (ho : s.ok) (h0 : s.tier = 0) : s.bytes.length ≤ 1336 := by
  have hm' := hm
  obtain ⟨⟨a1, a2⟩, ⟨a3, a4⟩, ⟨a5, a6, a7⟩, a8⟩ := hm'
  obtain ⟨p1, p2, p3⟩ := has_zero a8 ho h0
  have h1 := putB_len p2.1 p2.2
  have h2 := p2.1.2
  have h3 := bytesOf_ten [s.id.toNat, s.tier.toNat, s.fr.toNat, (s.tz - s.fr).toNat] (fun n hn => by
    simp only [List.mem_cons, List.not_mem_nil, or_false] at hn
    omega)
  rw [bytes_len]
  unfold Sg.body
  rw [p1, List.length_append, List.length_append]
  simp only [List.length_cons, List.length_nil] at h3 ⊢
  omega
theorem tier0_file {s : Sg} (hm : s.may) (ho : s.ok) (h0 : s.tier = 0) : IsFile s.bytes s := ⟨hm, ho, rfl, by have := tier0_len hm ho h0; omega⟩
end Go.Proofs.YtepancmkopifpaaGreatDoor
