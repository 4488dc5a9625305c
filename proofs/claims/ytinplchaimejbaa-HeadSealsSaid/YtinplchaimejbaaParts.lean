/-
  Plain arithmetic of lists that are cut in two, and of lists of small values. No program in it.
-/
import Derived.Test.YtinplchaimejbaaMath
namespace Go.Proofs.Ytinplchaimejbaa

theorem sumL_append (xs ys : List Int) : sumL (xs ++ ys) = sumL xs + sumL ys := by
  induction xs with
  | nil => simp [sumL]
  | cons v r ih => simp only [List.cons_append, sumL, ih]; omega
theorem minL_append (xs ys : List Int) : ∀ m, minL m (xs ++ ys) = minL (minL m xs) ys := by
  induction xs with
  | nil => intro m; rfl
  | cons v r ih => intro m; simp only [List.cons_append, minL, ih]
theorem maxL_append (xs ys : List Int) : ∀ m, maxL m (xs ++ ys) = maxL (maxL m xs) ys := by
  induction xs with
  | nil => intro m; rfl
  | cons v r ih => intro m; simp only [List.cons_append, maxL, ih]
theorem lastL_append (xs ys : List Int) : ∀ m, lastL m (xs ++ ys) = lastL (lastL m xs) ys := by
  induction xs with
  | nil => intro m; rfl
  | cons v r ih => intro m; simp only [List.cons_append, lastL, ih]
theorem minL_min (r : List Int) : ∀ a b, minL (min a b) r = min a (minL b r) := by
  induction r with
  | nil => intro a b; rfl
  | cons v r ih => intro a b; simp only [minL]; rw [Int.min_assoc, ih]
theorem maxL_max (r : List Int) : ∀ a b, maxL (max a b) r = max a (maxL b r) := by
  induction r with
  | nil => intro a b; rfl
  | cons v r ih => intro a b; simp only [maxL]; rw [Int.max_assoc, ih]

theorem with_append (a : Ag) (xs ys : List Int) : a.with (xs ++ ys) = (a.with xs).with ys := by
  unfold Ag.with
  simp only [Ag.mk.injEq, true_and, sumL_append, minL_append, maxL_append, lastL_append, List.length_append, and_true]
  omega
theorem both_with (a b : Ag) (r : List Int) : a.both (b.with r) = (a.both b).with r := by
  unfold Ag.with Ag.both
  simp only [Ag.mk.injEq, true_and, minL_min, maxL_max, and_true]
  omega

theorem all_says (f : Int) (hf : Ag.begin_ f) (v : Int) (r : List Int) (hl : r.length ≤ 1000000) : all f (v :: r) = ((Ag.one v f).with r, 0) ∨ all f (v :: r) = (Ag.zero, 3) := by
  have e : all f (v :: r) = goOn f (.one v f) r := by
    show (if Ag.begin_ f then _ else _) = _
    rw [if_pos hf]
  rw [e]
  refine goOn_says f hf r _ (one_may hf) ?_
  show (1 : Int) + _ ≤ _
  omega
theorem goOn_ok (f : Int) (hf : Ag.begin_ f) : ∀ (r : List Int) (a : Ag), a.ok → (∀ v ∈ r, In64 v) → (goOn f a r).1.ok
  | [], a, ha, _ => ha
  | v :: r, a, ha, hr => by
    unfold goOn
    have hj := join_ok ha (one_ok (v := v) hf (hr v (by simp)))
    split
    · exact goOn_ok f hf r _ hj (fun u hu => hr u (by simp [hu]))
    · exact hj
theorem all_ok (f : Int) (hf : Ag.begin_ f) (l : List Int) (hl : ∀ v ∈ l, In64 v) : (all f l).1.ok := by
  match l with
  | [] => exact zero_ok
  | v :: r =>
    have e : all f (v :: r) = goOn f (.one v f) r := by
      show (if Ag.begin_ f then _ else _) = _
      rw [if_pos hf]
    rw [e]
    exact goOn_ok f hf r _ (one_ok hf (hl v (by simp))) (fun u hu => hl u (by simp [hu]))

/-- What FoldParts asks. -/
theorem parts_says (f g : Int) (hf : Ag.begin_ f) (hg : Ag.begin_ g) (x y : Int) (xs ys : List Int) (hx : xs.length ≤ 1000) (hy : ys.length ≤ 1000) :
    ((all f (x :: xs)).2 = 0 ∨ (all f (x :: xs)).2 = 3) ∧ ((all g (y :: ys)).2 = 0 ∨ (all g (y :: ys)).2 = 3) ∧ ((all f (x :: xs ++ y :: ys)).2 = 0 ∨ (all f (x :: xs ++ y :: ys)).2 = 3) ∧
    ((all f (x :: xs)).2 = 0 → (all g (y :: ys)).2 = 0 → (all f (x :: xs ++ y :: ys)).2 = 0 → (join (all f (x :: xs)).1 (all g (y :: ys)).1).2 = 0 →
      (all f (x :: xs ++ y :: ys)).1 = (join (all f (x :: xs)).1 (all g (y :: ys)).1).1) := by
  have h1 := all_says f hf x xs (by omega)
  have h2 := all_says g hg y ys (by omega)
  have h3 := all_says f hf x (xs ++ y :: ys) (by simp; omega)
  rw [show x :: xs ++ y :: ys = x :: (xs ++ y :: ys) from rfl]
  refine ⟨?_, ?_, ?_, fun e1 e2 e3 e4 => ?_⟩
  · rcases h1 with h | h <;> rw [h] <;> simp
  · rcases h2 with h | h <;> rw [h] <;> simp
  · rcases h3 with h | h <;> rw [h] <;> simp
  · rcases h1 with h1 | h1
    · rcases h2 with h2 | h2
      · rcases h3 with h3 | h3
        · have hz := (join_zero e4).2.2.2.2
          rw [hz, h1, h2, h3]
          simp only
          rw [both_with, with_cons, ← with_append]
        · rw [h3] at e3; simp at e3
      · rw [h2] at e2; simp at e2
    · rw [h1] at e1; simp at e1
end Go.Proofs.Ytinplchaimejbaa
