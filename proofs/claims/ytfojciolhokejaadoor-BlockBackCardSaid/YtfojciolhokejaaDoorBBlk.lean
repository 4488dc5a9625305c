/-
  Plain: samples as the document's own reader takes them, with sums round 64 bits; it meets what bytes say.
-/
import Derived.Test.YtfojciolhokejaaDoorBRNum
namespace Go.Proofs.YtfojciolhokejaaDoor
set_option linter.unusedVariables false

theorem numR_at (a : List Nat) {n : Nat} (r : List Nat) (h : n < 18446744073709551616) : numR (a ++ (enc n ++ r)) a.length false = (n, a.length + (enc n).length, false) := by
  unfold numR
  simp only
  rw [List.drop_left, dec_enc0 n r h]
/-- Samples behind one: so many of them, unless there is an error. -/
def bOn (bs : List Nat) : Nat → Int → Int → Int → Nat → Bool → List (Int × Int) × Nat × Bool
  | 0, _, _, _, p, bad => ([], p, bad)
  | n + 1, t, v, s, p, bad =>
    if bad then ([], p, bad) else
    let a := numR bs p bad
    let c := numR bs a.2.1 a.2.2
    let s' := w64 (s + zag a.1)
    let x := (w64 (t + s'), w64 (v + zag c.1))
    let y := bOn bs n x.1 x.2 s' c.2.1 c.2.2
    (x :: y.1, y.2)
/-- All samples, unless there is an error. -/
def bAll (bs : List Nat) (n : Nat) (p : Nat) (bad : Bool) : List (Int × Int) × Nat × Bool :=
  match n with
  | 0 => ([], p, bad)
  | n + 1 => if bad then ([], p, bad) else
    let a := numR bs p bad
    let c := numR bs a.2.1 a.2.2
    let x := (w64 (a.1 : Int), zag (c.1 : Int))
    let y := bOn bs n x.1 x.2 0 c.2.1 c.2.2
    (x :: y.1, y.2)
def blk (bs : List Nat) : List (Int × Int) × Nat × Bool := bAll bs (numR bs 0 false).1 (numR bs 0 false).2.1 ((numR bs 0 false).2.2 || decide (64 < (numR bs 0 false).1))

theorem bOn_s : ∀ (l : List (Int × Int)) (t s v : Int) (a : List Nat), RiseOn t l → BIn l → 0 ≤ t → 0 ≤ s → s ≤ 1099511627776 → t ≤ 1099511627776 →
    bOn (a ++ bytesOf (sOn t s v l)) l.length t v s a.length false = (l, (a ++ bytesOf (sOn t s v l)).length, false)
  | [], t, s, v, a, _, _, _, _, _, _ => by simp [bOn, sOn, bytesOf]
  | x :: r, t, s, v, a, h, hi, h0, h1, h2, h3 => by
    obtain ⟨ha, hb, hr⟩ := h
    have hx := hi x (by simp)
    have hd : In64 (x.1 - t - s) := by unfold In64; omega
    obtain ⟨z1, z2⟩ := zig_nat hd
    obtain ⟨z3, z4⟩ := zig_nat (w64_in (x.2 - v))
    simp only [sOn, bytesOf_cons, List.length_cons, bOn, Bool.false_eq_true, if_false]
    rw [numR_at a _ z2]
    simp only
    have e0 : a ++ (enc (zig (x.1 - t - s)).toNat ++ (enc (zig (w64 (x.2 - v))).toNat ++ bytesOf (sOn x.1 (x.1 - t) x.2 r))) = (a ++ enc (zig (x.1 - t - s)).toNat) ++ (enc (zig (w64 (x.2 - v))).toNat ++ bytesOf (sOn x.1 (x.1 - t) x.2 r)) := by simp
    rw [e0, show a.length + (enc (zig (x.1 - t - s)).toNat).length = (a ++ enc (zig (x.1 - t - s)).toNat).length by simp, numR_at _ _ z4]
    simp only
    rw [z1, z3, zag_zig, zag_zig, w64_on hx.2]
    have e1 : w64 (s + (x.1 - t - s)) = x.1 - t := by rw [show s + (x.1 - t - s) = x.1 - t by omega]; exact w64_id (by unfold In64; omega)
    rw [e1]
    have e2 : w64 (t + (x.1 - t)) = x.1 := by rw [show t + (x.1 - t) = x.1 by omega]; exact w64_id hx.1
    rw [e2]
    have ih := bOn_s r x.1 (x.1 - t) x.2 ((a ++ enc (zig (x.1 - t - s)).toNat) ++ enc (zig (w64 (x.2 - v))).toNat) hr (fun y hy => hi y (by simp [hy])) (by omega) (by omega) (by omega) hb
    have e3 : (a ++ enc (zig (x.1 - t - s)).toNat) ++ (enc (zig (w64 (x.2 - v))).toNat ++ bytesOf (sOn x.1 (x.1 - t) x.2 r)) = ((a ++ enc (zig (x.1 - t - s)).toNat) ++ enc (zig (w64 (x.2 - v))).toNat) ++ bytesOf (sOn x.1 (x.1 - t) x.2 r) := by simp
    rw [e3, show (a ++ enc (zig (x.1 - t - s)).toNat).length + (enc (zig (w64 (x.2 - v))).toNat).length = ((a ++ enc (zig (x.1 - t - s)).toNat) ++ enc (zig (w64 (x.2 - v))).toNat).length by simp only [List.length_append], ih]
theorem blk_put {l : List (Int × Int)} (h : BOk l) (hi : BIn l) : (blk (putB l)).1 = l ∧ (blk (putB l)).2.2 = false := by
  have hr := (rise_iff l).1 h.1
  have hl := h.2
  match l, hr, hi, hl with
  | [], _, _, _ =>
    have e0 : putB [] = [] ++ (enc 0 ++ []) := by simp [putB, sNums, bytesOf]
    unfold blk
    rw [e0, show (0 : Nat) = ([] : List Nat).length from rfl, numR_at [] [] (by decide)]
    exact ⟨rfl, rfl⟩
  | x :: r, h, hi, hl =>
    obtain ⟨h0, h1, hr⟩ := h
    have hx := hi x (by simp)
    obtain ⟨z1, z2⟩ := zig_nat hx.2
    have hl' : r.length + 1 ≤ 64 := by simpa using hl
    have ht : ((x.1.toNat : Nat) : Int) = x.1 := by omega
    have e0 : putB (x :: r) = [] ++ (enc (r.length + 1) ++ (enc x.1.toNat ++ (enc (zig x.2).toNat ++ bytesOf (sOn x.1 0 x.2 r)))) := by simp [putB, sNums, bytesOf]
    have e1 : putB (x :: r) = enc (r.length + 1) ++ (enc x.1.toNat ++ (enc (zig x.2).toNat ++ bytesOf (sOn x.1 0 x.2 r))) := by rw [e0]; rfl
    have e2 : putB (x :: r) = (enc (r.length + 1) ++ enc x.1.toNat) ++ (enc (zig x.2).toNat ++ bytesOf (sOn x.1 0 x.2 r)) := by rw [e1]; simp
    have e3 : putB (x :: r) = ((enc (r.length + 1) ++ enc x.1.toNat) ++ enc (zig x.2).toNat) ++ bytesOf (sOn x.1 0 x.2 r) := by rw [e2]; simp
    have q0 : numR (putB (x :: r)) 0 false = (r.length + 1, (enc (r.length + 1)).length, false) := by
      rw [e0, show (0 : Nat) = ([] : List Nat).length from rfl, numR_at [] _ (by omega)]
      simp
    have q1 : numR (putB (x :: r)) (enc (r.length + 1)).length false = (x.1.toNat, (enc (r.length + 1) ++ enc x.1.toNat).length, false) := by
      rw [e1, numR_at _ _ (by omega)]
      simp
    have q2 : numR (putB (x :: r)) (enc (r.length + 1) ++ enc x.1.toNat).length false = ((zig x.2).toNat, ((enc (r.length + 1) ++ enc x.1.toNat) ++ enc (zig x.2).toNat).length, false) := by
      rw [e2, numR_at _ _ z2]
      simp only [List.length_append]
    have q3 := bOn_s r x.1 0 x.2 ((enc (r.length + 1) ++ enc x.1.toNat) ++ enc (zig x.2).toNat) hr (fun y hy => hi y (by simp [hy])) h0 (by omega) (by omega) h1
    rw [← e3] at q3
    unfold blk
    rw [q0]
    simp only
    rw [decide_eq_false (show ¬ 64 < r.length + 1 by omega)]
    simp only [Bool.or_false, bAll, Bool.false_eq_true, if_false]
    rw [q1]
    simp only
    rw [q2]
    simp only
    rw [ht, z1, zag_zig, w64_id hx.1, q3]
    exact ⟨rfl, rfl⟩
theorem bOn_in (bs : List Nat) : ∀ (n : Nat) (t v s : Int) (p : Nat) (bad : Bool), BIn (bOn bs n t v s p bad).1 ∧ (bOn bs n t v s p bad).1.length ≤ n
  | 0, t, v, s, p, bad => ⟨fun y hy => by simp [bOn] at hy, by simp [bOn]⟩
  | n + 1, t, v, s, p, bad => by
    rw [bOn]
    split
    · exact ⟨fun y hy => by simp at hy, by simp⟩
    · have ih := bOn_in bs n (w64 (t + w64 (s + zag (numR bs p bad).1))) (w64 (v + zag (numR bs (numR bs p bad).2.1 (numR bs p bad).2.2).1)) (w64 (s + zag (numR bs p bad).1)) (numR bs (numR bs p bad).2.1 (numR bs p bad).2.2).2.1 (numR bs (numR bs p bad).2.1 (numR bs p bad).2.2).2.2
      refine ⟨?_, by simp only [List.length_cons]; omega⟩
      intro y hy
      simp only [List.mem_cons] at hy
      rcases hy with rfl | hy
      · exact ⟨w64_in _, w64_in _⟩
      · exact ih.1 y hy
theorem blk_in {bs : List Nat} (hb : ∀ c ∈ bs, c < 256) : BIn (blk bs).1 := by
  unfold blk bAll
  split
  · exact fun y hy => by simp at hy
  · split
    · exact fun y hy => by simp at hy
    · intro y hy
      simp only [List.mem_cons] at hy
      rcases hy with rfl | hy
      · refine ⟨w64_in _, ?_⟩
        have h0 := numR_le (bs := bs) (p := 0) (bad := false) hb (by omega)
        have h1 := numR_le (bs := bs) (p := (numR bs 0 false).2.1) (bad := ((numR bs 0 false).2.2 || decide (64 < (numR bs 0 false).1))) hb h0.1
        have h2 := numR_le (bs := bs) (p := (numR bs (numR bs 0 false).2.1 ((numR bs 0 false).2.2 || decide (64 < (numR bs 0 false).1))).2.1) (bad := (numR bs (numR bs 0 false).2.1 ((numR bs 0 false).2.2 || decide (64 < (numR bs 0 false).1))).2.2) hb h1.1
        exact zag_range _ (by omega) (by omega)
      · exact (bOn_in bs _ _ _ _ _ _).1 y hy
/-- The document's own answer, and what bytes say. -/
theorem blk_says {bs : List Nat} (hb : ∀ c ∈ bs, c < 256) : getB bs = if (blk bs).2.2 = false ∧ BOk (blk bs).1 ∧ putB (blk bs).1 = bs then some (blk bs).1 else none := by
  split
  · next h =>
    have := getB_putB h.2.1 (blk_in hb)
    rw [h.2.2] at this
    exact this
  · next h =>
    cases e : getB bs with
    | none => rfl
    | some l =>
      obtain ⟨h1, h2, h3⟩ := putB_getB hb e
      obtain ⟨g1, g2⟩ := blk_put h2 h3
      rw [h1] at g1 g2
      exact absurd ⟨g2, by rw [g1]; exact h2, by rw [g1]; exact h1⟩ h
end Go.Proofs.YtfojciolhokejaaDoor
