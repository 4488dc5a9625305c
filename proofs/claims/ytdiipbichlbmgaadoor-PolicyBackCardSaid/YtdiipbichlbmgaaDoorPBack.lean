/-
  Plain: what is printed is read as the same.
-/
import Derived.Test.YtdiipbichlbmgaaDoorPPrint
namespace Go.Proofs.YtdiipbichlbmgaaDoor
set_option linter.unusedVariables false

theorem cut1_miss {c : UInt8} : ∀ {x : List UInt8}, (∀ b ∈ x, b ≠ c) → cut1 c x = (x, [], false)
  | [], _ => rfl
  | b :: x, h => by
    have ih := cut1_miss (c := c) (x := x) (fun d hd => h d (by simp [hd]))
    simp [cut1, h b (by simp), ih]
theorem cut1_hit {c : UInt8} : ∀ {x : List UInt8} (r : List UInt8), (∀ b ∈ x, b ≠ c) → cut1 c (x ++ c :: r) = (x, r, true)
  | [], r, _ => by simp [cut1]
  | b :: x, r, h => by
    have ih := cut1_hit (c := c) (x := x) r (fun d hd => h d (by simp [hd]))
    simp [cut1, h b (by simp), ih]
theorem pieces_hit {c : UInt8} {x : List UInt8} (r : List UInt8) (h : ∀ b ∈ x, b ≠ c) : pieces c (x ++ c :: r) = x :: pieces c r := by
  rw [pieces_cut, cut1_hit r h]
  rfl
theorem wordsB_hit {x : List UInt8} (r : List UInt8) (h : ∀ b ∈ x, b ≠ 32) (hx : x ≠ []) : wordsB (x ++ 32 :: r) = x :: wordsB r := by
  rw [wordsB_cut, cut1_hit r h, if_neg hx]
  rfl
theorem wordsB_last {x : List UInt8} (h : ∀ b ∈ x, b ≠ 32) (hx : x ≠ []) : wordsB x = [x] := by
  rw [wordsB_cut, cut1_miss h, if_neg hx]
  rfl

/-- No blank, no line's end, no # in it, and not empty. -/
def Word (x : List UInt8) : Prop := x ≠ [] ∧ ∀ b ∈ x, b ≠ 10 ∧ b ≠ 32 ∧ b ≠ 35
theorem words_three {a b c : List UInt8} (ha : Word a) (hb : Word b) (hc : Word c) : words (a ++ 32 :: (b ++ 32 :: c)) = [a, b, c] := by
  unfold words
  rw [cut1_miss (x := a ++ 32 :: (b ++ 32 :: c))]
  · show (wordsB (a ++ 32 :: (b ++ 32 :: c))).take 4 = _
    rw [wordsB_hit _ (fun d hd => (ha.2 d hd).2.1) ha.1, wordsB_hit _ (fun d hd => (hb.2 d hd).2.1) hb.1, wordsB_last (fun d hd => (hc.2 d hd).2.1) hc.1]
    rfl
  · intro d hd
    simp only [List.mem_append, List.mem_cons] at hd
    rcases hd with hd | rfl | hd | rfl | hd
    · exact (ha.2 d hd).2.2
    · decide
    · exact (hb.2 d hd).2.2
    · decide
    · exact (hc.2 d hd).2.2
theorem words_two {a b : List UInt8} (ha : Word a) (hb : Word b) : words (a ++ 32 :: b) = [a, b] := by
  unfold words
  rw [cut1_miss (x := a ++ 32 :: b)]
  · show (wordsB (a ++ 32 :: b)).take 4 = _
    rw [wordsB_hit _ (fun d hd => (ha.2 d hd).2.1) ha.1, wordsB_last (fun d hd => (hb.2 d hd).2.1) hb.1]
    rfl
  · intro d hd
    simp only [List.mem_append, List.mem_cons] at hd
    rcases hd with hd | rfl | hd
    · exact (ha.2 d hd).2.2
    · decide
    · exact (hb.2 d hd).2.2
theorem line_three {a b c : List UInt8} (ha : Word a) (hb : Word b) (hc : Word c) : ∀ d ∈ a ++ 32 :: (b ++ 32 :: c), d ≠ 10 := by
  intro d hd
  simp only [List.mem_append, List.mem_cons] at hd
  rcases hd with hd | rfl | hd | rfl | hd
  · exact (ha.2 d hd).1
  · decide
  · exact (hb.2 d hd).1
  · decide
  · exact (hc.2 d hd).1
theorem line_two {a b : List UInt8} (ha : Word a) (hb : Word b) : ∀ d ∈ a ++ 32 :: b, d ≠ 10 := by
  intro d hd
  simp only [List.mem_append, List.mem_cons] at hd
  rcases hd with hd | rfl | hd
  · exact (ha.2 d hd).1
  · decide
  · exact (hb.2 d hd).1

theorem numOn_snoc (n : Int) (l : List UInt8) (c : UInt8) : numOn n (l ++ [c]) = (numOn n l).bind fun m => if dig c then some (10 * m + ((c.toNat : Int) - 48)) else none := by
  induction l generalizing n with
  | nil => simp [numOn]
  | cons d r ih =>
    simp only [List.cons_append, numOn]
    split
    · exact ih _
    · rfl
theorem digit_says {u : Nat} (h : u < 10) : dig (UInt8.ofNat (48 + u)) = true ∧ (((UInt8.ofNat (48 + u)).toNat : Int) - 48) = u := by
  match u, h with
  | 0, _ | 1, _ | 2, _ | 3, _ | 4, _ | 5, _ | 6, _ | 7, _ | 8, _ | 9, _ => decide
theorem digit_word {u : Nat} (h : u < 10) : UInt8.ofNat (48 + u) ≠ 10 ∧ UInt8.ofNat (48 + u) ≠ 32 ∧ UInt8.ofNat (48 + u) ≠ 35 ∧ UInt8.ofNat (48 + u) ≠ 101 := by
  match u, h with
  | 0, _ | 1, _ | 2, _ | 3, _ | 4, _ | 5, _ | 6, _ | 7, _ | 8, _ | 9, _ => decide
theorem numOn_digits (u : Nat) : numOn 0 (Lib.decDigits u) = some (u : Int) := by
  induction u using Nat.strongRecOn with
  | _ u ih =>
    rw [Lib.decDigits]
    split
    · next h =>
      obtain ⟨h1, h2⟩ := digit_says h
      rw [numOn, if_pos h1, h2, numOn]
      simp
    · next h =>
      rw [numOn_snoc, ih (u / 10) (by omega)]
      have := digit_says (show u % 10 < 10 by omega)
      simp only [Option.bind_some, this, if_true]
      congr 1
      omega
theorem digits_word (u : Nat) : Lib.decDigits u ≠ [] ∧ ∀ b ∈ Lib.decDigits u, b ≠ 10 ∧ b ≠ 32 ∧ b ≠ 35 ∧ b ≠ 101 := by
  induction u using Nat.strongRecOn with
  | _ u ih =>
    rw [Lib.decDigits]
    split
    · next h =>
      refine ⟨by simp, ?_⟩
      intro b hb
      simp only [List.mem_singleton] at hb
      subst hb
      exact digit_word h
    · next h =>
      refine ⟨by simp, ?_⟩
      intro b hb
      simp only [List.mem_append, List.mem_singleton] at hb
      rcases hb with hb | rfl
      · exact (ih (u / 10) (by omega)).2 b hb
      · exact digit_word (by omega)
theorem digits_len : ∀ (k u : Nat), u < 10 ^ (k + 1) → (Lib.decDigits u).length ≤ k + 1
  | 0, u, h => by
    rw [Lib.decDigits, dif_pos (by simpa using h)]
    simp
  | k + 1, u, h => by
    rw [Lib.decDigits]
    split
    · simp
    · have := digits_len k (u / 10) (by rw [Nat.pow_succ] at h; omega)
      simp only [List.length_append, List.length_cons, List.length_nil]
      omega
theorem itoa_nat {a : Int} (h : 0 ≤ a) : Lib.itoa a = Lib.decDigits a.toNat := by
  unfold Lib.itoa
  rw [if_neg (by omega)]
theorem num_itoa {a : Int} (h : 0 ≤ a) (h2 : a < 10000000000000) : num (Lib.itoa a) = some a := by
  rw [itoa_nat h]
  have h1 := (digits_word a.toNat).1
  have hl := digits_len 12 a.toNat (by
    have : (10 : Nat) ^ (12 + 1) = 10000000000000 := by decide
    omega)
  unfold num
  rw [if_pos ⟨List.length_pos_iff.2 h1, hl⟩, numOn_digits]
  congr 1
  omega
theorem itoa_word {a : Int} (h : 0 ≤ a) : Word (Lib.itoa a) := by
  rw [itoa_nat h]
  obtain ⟨h1, h2⟩ := digits_word a.toNat
  exact ⟨h1, fun b hb => ⟨(h2 b hb).1, (h2 b hb).2.1, (h2 b hb).2.2.1⟩⟩
theorem ever_word : Word ever := by unfold Word ever; decide
theorem keep_word : Word keep := by unfold Word keep; decide
theorem seal_word : Word sealB := by unfold Word sealB; decide
theorem span_word : Word span := by unfold Word span; decide
theorem name_word (k : Nat) : Word (nameAt k) := by
  unfold Word nameAt
  split <;> decide
theorem age_word {a : Int} (h : 0 ≤ a) : Word (ageText a) := by
  unfold ageText
  split
  · exact ever_word
  · exact itoa_word h
theorem age_text {a : Int} (h : 0 ≤ a) (h2 : a < 10000000000000) : age (ageText a) = some a := by
  unfold ageText
  split
  · next e => subst e; rfl
  · unfold age
    rw [if_neg, num_itoa h h2]
    intro e
    have := (digits_word a.toNat).2 101
    rw [← itoa_nat h, e] at this
    exact (this (by decide)).2.2.2 rfl
theorem tier_name {k : Nat} (hk : k < 4) : tier (nameAt k) = some k := by
  match k, hk with
  | 0, _ | 1, _ | 2, _ | 3, _ => decide
theorem read_keep {k : Nat} {a : Int} (hk : k < 4) (h : 0 ≤ a) (h2 : a < 10000000000000) : readR [keep, nameAt k, ageText a] = (k, a, true) := by
  show (if keep = keep then ((tier (nameAt k)).getD 0, (age (ageText a)).getD 0, (tier (nameAt k)).isSome && (age (ageText a)).isSome) else (0, 0, false)) = _
  rw [if_pos rfl, tier_name hk, age_text h h2]
  rfl
theorem read_seal {a : Int} (h : 0 ≤ a) (h2 : a < 10000000000000) : readR [sealB, Lib.itoa a] = (4, a, true) := by
  show (if sealB = sealB then (4, (num (Lib.itoa a)).getD 0, (num (Lib.itoa a)).isSome) else if sealB = span then (5, (num (Lib.itoa a)).getD 0, (num (Lib.itoa a)).isSome) else (0, 0, false)) = _
  rw [if_pos rfl, num_itoa h h2]
  rfl
theorem read_span {a : Int} (h : 0 ≤ a) (h2 : a < 10000000000000) : readR [span, Lib.itoa a] = (5, a, true) := by
  show (if span = sealB then (4, (num (Lib.itoa a)).getD 0, (num (Lib.itoa a)).isSome) else if span = span then (5, (num (Lib.itoa a)).getD 0, (num (Lib.itoa a)).isSome) else (0, 0, false)) = _
  rw [if_neg (by decide), if_pos rfl, num_itoa h h2]
  rfl
theorem parseOn_line {n : Nat} {p : Pol} {s : List Bool} {l : List UInt8} {r : List (List UInt8)} {ws : List (List UInt8)} {k : Nat} {a : Int} (hw : words l = ws) (hne : ws ≠ []) (hr : readR ws = (k, a, true)) (hs : s.getD k false = false) :
    parseOn n p s (l :: r) = parseOn (n + 1) (p.put k a) (s.set k true) r := by
  rw [parseOn, hw, if_neg hne, hr]
  simp only
  rw [hs]
  rfl
theorem parseOn_keep {n : Nat} {p : Pol} {s : List Bool} {r : List (List UInt8)} {k : Nat} {a : Int} (hk : k < 4) (h : 0 ≤ a) (h2 : a < 10000000000000) (hs : s.getD k false = false) :
    parseOn n p s ((keep ++ 32 :: (nameAt k ++ 32 :: ageText a)) :: r) = parseOn (n + 1) (p.put k a) (s.set k true) r :=
  parseOn_line (words_three keep_word (name_word k) (age_word h)) (by simp) (read_keep hk h h2) hs

theorem back_says {p : Pol} (h : p.may) : parse (printR p) = (p, 0, 0) := by
  have hm := h
  obtain ⟨a0, a1, a2, a3, cn, sp⟩ := p
  unfold Pol.may Pol.ages ageOk at h
  simp only at h
  obtain ⟨⟨⟨⟨x0, y0⟩, ⟨x1, y1⟩, ⟨x2, y2⟩, x3, y3⟩, _, _⟩, ⟨x4, y4⟩, x5, y5⟩ := h
  have e : printR ⟨a0, a1, a2, a3, cn, sp⟩ = (keep ++ 32 :: (nameAt 0 ++ 32 :: ageText a0)) ++ 10 :: ((keep ++ 32 :: (nameAt 1 ++ 32 :: ageText a1)) ++ 10 :: ((keep ++ 32 :: (nameAt 2 ++ 32 :: ageText a2)) ++ 10 :: ((keep ++ 32 :: (nameAt 3 ++ 32 :: ageText a3)) ++ 10 :: ((sealB ++ 32 :: Lib.itoa cn) ++ 10 :: ((span ++ 32 :: Lib.itoa sp) ++ 10 :: []))))) := by
    simp [printR, linesR, lineR, Pol.at, keep, sealB, span]
  unfold parse
  rw [e, pieces_hit _ (line_three keep_word (name_word 0) (age_word x0)), pieces_hit _ (line_three keep_word (name_word 1) (age_word x1)), pieces_hit _ (line_three keep_word (name_word 2) (age_word x2)),
    pieces_hit _ (line_three keep_word (name_word 3) (age_word x3)), pieces_hit _ (line_two seal_word (itoa_word (by omega))), pieces_hit _ (line_two span_word (itoa_word (by omega)))]
  rw [parseOn_keep (by decide) x0 (by omega) rfl, parseOn_keep (by decide) x1 (by omega) rfl, parseOn_keep (by decide) x2 (by omega) rfl, parseOn_keep (by decide) x3 (by omega) rfl,
    parseOn_line (words_two seal_word (itoa_word (by omega))) (by simp) (read_seal (a := cn) (by omega) (by omega)) rfl,
    parseOn_line (words_two span_word (itoa_word (by omega))) (by simp) (read_span (a := sp) (by omega) (by omega)) rfl]
  have hp : (((((Pol.dflt.put 0 a0).put 1 a1).put 2 a2).put 3 a3).put 4 cn).put 5 sp = ⟨a0, a1, a2, a3, cn, sp⟩ := by
    simp only [Pol.put, Pol.mk.injEq, true_and, and_true]
    omega
  rw [hp]
  show parseOn _ _ _ [[]] = _
  rw [parseOn, if_pos (show words [] = [] from rfl), parseOn, if_pos hm]
end Go.Proofs.YtdiipbichlbmgaaDoor
