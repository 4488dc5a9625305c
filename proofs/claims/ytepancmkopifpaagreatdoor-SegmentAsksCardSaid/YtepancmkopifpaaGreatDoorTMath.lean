/-
  Plain arithmetic of what samples come to: when an aggregate may be, what two joined are, what a list comes to. No program in it.
  Plain arithmetic of lists that are cut in two, and of lists of small values. No program in it.
  Plain arithmetic of lists of values up to a billion: what they come to; turned round; their bounds. No program in it.
  Plain arithmetic of windows: widths, floors, samples that rise, windows that are aligned, what they come to. No program in it.
  Plain arithmetic of what windows come to: of samples (rawOn), of finer windows (downOn). No program in it.
-/
namespace Go.Proofs.YtepancmkopifpaaGreatDoor

/-- An aggregate: from, count, sum, least, greatest, first, last. -/
structure Ag where
  fr : Int
  cn : Int
  sm : Int
  mn : Int
  mx : Int
  fi : Int
  la : Int

def In64 (a : Int) : Prop := -9223372036854775808 ≤ a ∧ a ≤ 9223372036854775807
instance (a : Int) : Decidable (In64 a) := by unfold In64; infer_instance

def Ag.zero : Ag := ⟨0, 0, 0, 0, 0, 0, 0⟩
def Ag.one (v f : Int) : Ag := ⟨f, 1, v, v, v, v, v⟩
def Ag.ok (a : Ag) : Prop := In64 a.fr ∧ In64 a.cn ∧ In64 a.sm ∧ In64 a.mn ∧ In64 a.mx ∧ In64 a.fi ∧ In64 a.la
def Ag.begin_ (f : Int) : Prop := 0 ≤ f ∧ f ≤ 1099511627776
def Ag.count (n : Int) : Prop := 1 ≤ n ∧ n ≤ 1099511627776
def Ag.hold (a : Ag) : Prop := (a.mn ≤ a.fi ∧ a.mn ≤ a.la ∧ a.mn ≤ a.mx) ∧ a.fi ≤ a.mx ∧ a.la ≤ a.mx
def Ag.alike (a : Ag) : Prop := a.sm = a.mn ∧ a.mn = a.mx ∧ a.mx = a.fi ∧ a.fi = a.la
instance (f : Int) : Decidable (Ag.begin_ f) := by unfold Ag.begin_; infer_instance
instance (f : Int) : Decidable (Ag.count f) := by unfold Ag.count; infer_instance
instance (a : Ag) : Decidable a.hold := by unfold Ag.hold; infer_instance
instance (a : Ag) : Decidable a.alike := by unfold Ag.alike; infer_instance
def Ag.may (a : Ag) : Prop := Ag.begin_ a.fr ∧ Ag.count a.cn ∧ a.hold ∧ (1 < a.cn ∨ a.alike)
instance (a : Ag) : Decidable a.may := by unfold Ag.may; infer_instance

def Ag.both (a b : Ag) : Ag := ⟨a.fr, a.cn + b.cn, a.sm + b.sm, min a.mn b.mn, max a.mx b.mx, a.fi, b.la⟩
/-- What Join says. -/
def join (a b : Ag) : Ag × Int :=
  if a.may ∧ b.may ∧ a.cn + b.cn ≤ 1099511627776 then
    if In64 (a.sm + b.sm) then (a.both b, 0) else (Ag.zero, 3)
  else (Ag.zero, 1)

/-- What All says of values behind what was joined so far. -/
def goOn (f : Int) : Ag → List Int → Ag × Int
  | a, [] => (a, 0)
  | a, v :: r => if (join a (.one v f)).2 = 0 then goOn f (join a (.one v f)).1 r else join a (.one v f)
def all (f : Int) : List Int → Ag × Int
  | [] => (Ag.zero, 1)
  | v :: r => if Ag.begin_ f then goOn f (.one v f) r else (Ag.zero, 1)

theorem one_may {v f : Int} (hf : Ag.begin_ f) : (Ag.one v f).may := by
  unfold Ag.may Ag.count Ag.hold Ag.alike Ag.one
  exact ⟨hf, by simp, by simp, .inr ⟨rfl, rfl, rfl, rfl⟩⟩
theorem one_ok {v f : Int} (hf : Ag.begin_ f) (hv : In64 v) : (Ag.one v f).ok := by
  have h1 : In64 f := by
    unfold Ag.begin_ at hf
    unfold In64
    omega
  exact ⟨h1, by show In64 1; decide, hv, hv, hv, hv, hv⟩
theorem both_may {a b : Ag} (ha : a.may) (hb : b.may) (hc : a.cn + b.cn ≤ 1099511627776) : (a.both b).may := by
  unfold Ag.may Ag.begin_ Ag.count Ag.hold Ag.alike at *
  unfold Ag.both
  simp only
  omega
theorem both_ok {a b : Ag} (ha : a.ok) (hb : b.ok) (ma : a.may) (mb : b.may) (hc : a.cn + b.cn ≤ 1099511627776) (hs : In64 (a.sm + b.sm)) : (a.both b).ok := by
  unfold Ag.may Ag.begin_ Ag.count at ma mb
  unfold Ag.ok In64 at *
  unfold Ag.both
  simp only
  omega
theorem zero_ok : Ag.zero.ok := by unfold Ag.ok Ag.zero In64; simp
theorem join_ok {a b : Ag} (ha : a.ok) (hb : b.ok) : (join a b).1.ok := by
  unfold join
  split
  · next h =>
    split
    · next hs => exact both_ok ha hb h.1 h.2.1 h.2.2 hs
    · exact zero_ok
  · exact zero_ok
theorem join_code (a b : Ag) : (join a b).2 = 0 ∨ (join a b).2 = 1 ∨ (join a b).2 = 3 := by
  unfold join
  split
  · split
    · exact .inl rfl
    · exact .inr (.inr rfl)
  · exact .inr (.inl rfl)
theorem join_zero {a b : Ag} (h : (join a b).2 = 0) : a.may ∧ b.may ∧ a.cn + b.cn ≤ 1099511627776 ∧ In64 (a.sm + b.sm) ∧ (join a b).1 = a.both b := by
  unfold join at h ⊢
  split at h
  · next h1 =>
    split at h
    · next h2 => exact ⟨h1.1, h1.2.1, h1.2.2, h2, by rw [if_pos h1, if_pos h2]⟩
    · simp at h
  · simp at h

/-- Three joined one way and the other. -/
theorem join_threes {a b c : Ag} (e : (join a b).2 = 0) (f : (join (join a b).1 c).2 = 0) (g : (join b c).2 = 0) (h : (join a (join b c).1).2 = 0) :
    (join (join a b).1 c).1 = (join a (join b c).1).1 ∧ (join (join a b).1 c).1.may ∧ (join (join a b).1 c).1.fr = a.fr ∧ (join (join a b).1 c).1.fi = a.fi ∧ (join (join a b).1 c).1.la = c.la := by
  obtain ⟨e1, e2, e3, e4, e5⟩ := join_zero e
  obtain ⟨f1, f2, f3, f4, f5⟩ := join_zero f
  obtain ⟨g1, g2, g3, g4, g5⟩ := join_zero g
  obtain ⟨h1, h2, h3, h4, h5⟩ := join_zero h
  rw [f5, h5]
  refine ⟨?_, both_may f1 f2 f3, ?_⟩
  · rw [e5, g5]
    unfold Ag.both
    simp only [Ag.mk.injEq, true_and, and_true]
    exact ⟨Int.add_assoc _ _ _, Int.add_assoc _ _ _, Int.min_assoc _ _ _, Int.max_assoc _ _ _⟩
  · rw [e5]
    exact ⟨rfl, rfl, rfl⟩

/-- What values come to, gone for by itself. -/
def sumL : List Int → Int
  | [] => 0
  | v :: r => v + sumL r
def minL (m : Int) : List Int → Int
  | [] => m
  | v :: r => minL (min m v) r
def maxL (m : Int) : List Int → Int
  | [] => m
  | v :: r => maxL (max m v) r
def lastL (m : Int) : List Int → Int
  | [] => m
  | v :: r => lastL v r

/-- What All says where nothing goes beyond 64 bits. -/
def Ag.with (a : Ag) (r : List Int) : Ag := ⟨a.fr, a.cn + r.length, a.sm + sumL r, minL a.mn r, maxL a.mx r, a.fi, lastL a.la r⟩
theorem with_nil (a : Ag) : a.with [] = a := by unfold Ag.with sumL minL maxL lastL; simp
theorem with_cons (a : Ag) (f v : Int) (r : List Int) : (a.both (.one v f)).with r = a.with (v :: r) := by
  unfold Ag.with Ag.both Ag.one
  simp only [sumL, minL, maxL, lastL, List.length_cons, Ag.mk.injEq, true_and, and_true]
  omega

theorem goOn_says (f : Int) (hf : Ag.begin_ f) : ∀ (r : List Int) (a : Ag), a.may → a.cn + r.length ≤ 1099511627776 → goOn f a r = (a.with r, 0) ∨ goOn f a r = (Ag.zero, 3)
  | [], a, _, _ => .inl (by rw [with_nil]; rfl)
  | v :: r, a, ha, hc => by
    have hc' : a.cn + (Ag.one v f).cn ≤ 1099511627776 := by
      simp only [List.length_cons] at hc
      unfold Ag.one
      simp only
      omega
    by_cases hs : In64 (a.sm + (Ag.one v f).sm)
    · have hj : join a (.one v f) = (a.both (.one v f), 0) := by
        unfold join
        rw [if_pos ⟨ha, one_may hf, hc'⟩, if_pos hs]
      unfold goOn
      rw [hj]
      simp only [if_pos]
      rw [← with_cons a f v r]
      refine goOn_says f hf r _ (both_may ha (one_may hf) hc') ?_
      simp only [List.length_cons] at hc
      unfold Ag.both Ag.one
      simp only
      omega
    · have hj : join a (.one v f) = (Ag.zero, 3) := by
        unfold join
        rw [if_pos ⟨ha, one_may hf, hc'⟩, if_neg hs]
      unfold goOn
      rw [hj]
      right
      simp

/-- Values up to a billion: nothing goes beyond 64 bits. -/
theorem goOn_small (f : Int) (hf : Ag.begin_ f) : ∀ (r : List Int) (a : Ag), a.may → a.cn + r.length ≤ 1000000 → (∀ v ∈ r, -1000000000 < v ∧ v < 1000000000) →
    -1000000000 * a.cn ≤ a.sm → a.sm ≤ 1000000000 * a.cn → goOn f a r = (a.with r, 0)
  | [], a, _, _, _, _, _ => by rw [with_nil]; rfl
  | v :: r, a, ha, hc, hv, h1, h2 => by
    have hv0 := hv v (by simp)
    simp only [List.length_cons] at hc
    have hc' : a.cn + (Ag.one v f).cn ≤ 1099511627776 := by
      unfold Ag.one
      simp only
      omega
    have hs : In64 (a.sm + (Ag.one v f).sm) := by
      unfold In64 Ag.one
      simp only
      omega
    have hj : join a (.one v f) = (a.both (.one v f), 0) := by
      unfold join
      rw [if_pos ⟨ha, one_may hf, hc'⟩, if_pos hs]
    unfold goOn
    rw [hj]
    simp only [if_pos]
    rw [← with_cons a f v r]
    refine goOn_small f hf r _ (both_may ha (one_may hf) hc') ?_ (fun u hu => hv u (by simp [hu])) ?_ ?_
    all_goals
      unfold Ag.both Ag.one
      simp only
      omega
end Go.Proofs.YtepancmkopifpaaGreatDoor
namespace Go.Proofs.YtepancmkopifpaaGreatDoor

theorem sumL_append (xs ys : List Int) : sumL (xs ++ ys) = sumL xs + sumL ys := by
  induction xs with
  | nil => simp [sumL]
  | cons v r ih => simp only [List.cons_append, sumL, ih]; omega
theorem minL_append (xs ys : List Int) : ∀ m, minL m (xs ++ ys) = minL (minL m xs) ys := by
  induction xs with
  | nil => intro m; rfl
  | cons v r ih => intro m; simp only [List.cons_append, minL, ih]
theorem maxL_append (xs ys : List Int) : ∀ m, maxL m (xs ++ ys) = maxL (maxL m xs) ys := by
  induction xs with
  | nil => intro m; rfl
  | cons v r ih => intro m; simp only [List.cons_append, maxL, ih]
theorem lastL_append (xs ys : List Int) : ∀ m, lastL m (xs ++ ys) = lastL (lastL m xs) ys := by
  induction xs with
  | nil => intro m; rfl
  | cons v r ih => intro m; simp only [List.cons_append, lastL, ih]
theorem minL_min (r : List Int) : ∀ a b, minL (min a b) r = min a (minL b r) := by
  induction r with
  | nil => intro a b; rfl
  | cons v r ih => intro a b; simp only [minL]; rw [Int.min_assoc, ih]
theorem maxL_max (r : List Int) : ∀ a b, maxL (max a b) r = max a (maxL b r) := by
  induction r with
  | nil => intro a b; rfl
  | cons v r ih => intro a b; simp only [maxL]; rw [Int.max_assoc, ih]

theorem with_append (a : Ag) (xs ys : List Int) : a.with (xs ++ ys) = (a.with xs).with ys := by
  unfold Ag.with
  simp only [Ag.mk.injEq, true_and, sumL_append, minL_append, maxL_append, lastL_append, List.length_append, and_true]
  omega
theorem both_with (a b : Ag) (r : List Int) : a.both (b.with r) = (a.both b).with r := by
  unfold Ag.with Ag.both
  simp only [Ag.mk.injEq, true_and, minL_min, maxL_max, and_true]
  omega

theorem all_says (f : Int) (hf : Ag.begin_ f) (v : Int) (r : List Int) (hl : r.length ≤ 1000000) : all f (v :: r) = ((Ag.one v f).with r, 0) ∨ all f (v :: r) = (Ag.zero, 3) := by
  have e : all f (v :: r) = goOn f (.one v f) r := by
    show (if Ag.begin_ f then _ else _) = _
    rw [if_pos hf]
  rw [e]
  refine goOn_says f hf r _ (one_may hf) ?_
  show (1 : Int) + _ ≤ _
  omega
theorem goOn_ok (f : Int) (hf : Ag.begin_ f) : ∀ (r : List Int) (a : Ag), a.ok → (∀ v ∈ r, In64 v) → (goOn f a r).1.ok
  | [], a, ha, _ => ha
  | v :: r, a, ha, hr => by
    unfold goOn
    have hj := join_ok ha (one_ok (v := v) hf (hr v (by simp)))
    split
    · exact goOn_ok f hf r _ hj (fun u hu => hr u (by simp [hu]))
    · exact hj
theorem all_ok (f : Int) (hf : Ag.begin_ f) (l : List Int) (hl : ∀ v ∈ l, In64 v) : (all f l).1.ok := by
  match l with
  | [] => exact zero_ok
  | v :: r =>
    have e : all f (v :: r) = goOn f (.one v f) r := by
      show (if Ag.begin_ f then _ else _) = _
      rw [if_pos hf]
    rw [e]
    exact goOn_ok f hf r _ (one_ok hf (hl v (by simp))) (fun u hu => hl u (by simp [hu]))

/-- What FoldParts asks. -/
theorem parts_says (f g : Int) (hf : Ag.begin_ f) (hg : Ag.begin_ g) (x y : Int) (xs ys : List Int) (hx : xs.length ≤ 1000) (hy : ys.length ≤ 1000) :
    ((all f (x :: xs)).2 = 0 ∨ (all f (x :: xs)).2 = 3) ∧ ((all g (y :: ys)).2 = 0 ∨ (all g (y :: ys)).2 = 3) ∧ ((all f (x :: xs ++ y :: ys)).2 = 0 ∨ (all f (x :: xs ++ y :: ys)).2 = 3) ∧
    ((all f (x :: xs)).2 = 0 → (all g (y :: ys)).2 = 0 → (all f (x :: xs ++ y :: ys)).2 = 0 → (join (all f (x :: xs)).1 (all g (y :: ys)).1).2 = 0 →
      (all f (x :: xs ++ y :: ys)).1 = (join (all f (x :: xs)).1 (all g (y :: ys)).1).1) := by
  have h1 := all_says f hf x xs (by omega)
  have h2 := all_says g hg y ys (by omega)
  have h3 := all_says f hf x (xs ++ y :: ys) (by simp; omega)
  rw [show x :: xs ++ y :: ys = x :: (xs ++ y :: ys) from rfl]
  refine ⟨?_, ?_, ?_, fun e1 e2 e3 e4 => ?_⟩
  · rcases h1 with h | h <;> rw [h] <;> simp
  · rcases h2 with h | h <;> rw [h] <;> simp
  · rcases h3 with h | h <;> rw [h] <;> simp
  · rcases h1 with h1 | h1
    · rcases h2 with h2 | h2
      · rcases h3 with h3 | h3
        · have hz := (join_zero e4).2.2.2.2
          rw [hz, h1, h2, h3]
          simp only
          rw [both_with, with_cons, ← with_append]
        · rw [h3] at e3; simp at e3
      · rw [h2] at e2; simp at e2
    · rw [h1] at e1; simp at e1
end Go.Proofs.YtepancmkopifpaaGreatDoor
namespace Go.Proofs.YtepancmkopifpaaGreatDoor

/-- What a list comes to where nothing goes beyond 64 bits. -/
def Ag.of (f : Int) : List Int → Ag
  | [] => Ag.zero
  | v :: r => (Ag.one v f).with r
theorem all_small (f : Int) (hf : Ag.begin_ f) (l : List Int) (hl : 0 < l.length) (hn : l.length ≤ 1000) (hv : ∀ v ∈ l, -1000000000 < v ∧ v < 1000000000) : all f l = (Ag.of f l, 0) := by
  match l, hl with
  | v :: r, _ =>
    have e : all f (v :: r) = goOn f (.one v f) r := by
      show (if Ag.begin_ f then _ else _) = _
      rw [if_pos hf]
    rw [e]
    have h0 := hv v (by simp)
    simp only [List.length_cons] at hn
    refine goOn_small f hf r _ (one_may hf) ?_ (fun u hu => hv u (by simp [hu])) ?_ ?_
    · show (1 : Int) + _ ≤ _
      omega
    · show -1000000000 * (1 : Int) ≤ v
      omega
    · show v ≤ 1000000000 * (1 : Int)
      omega
theorem of_snoc (f v : Int) (l : List Int) (hl : 0 < l.length) : Ag.of f (l ++ [v]) = (Ag.of f l).both (.one v f) := by
  match l, hl with
  | x :: r, _ =>
    show (Ag.one x f).with (r ++ [v]) = ((Ag.one x f).with r).both (.one v f)
    rw [with_append, ← with_cons _ f, with_nil]
theorem of_cons (f v : Int) (l : List Int) (hl : 0 < l.length) : Ag.of f (v :: l) = (Ag.one v f).both (Ag.of f l) := by
  match l, hl with
  | y :: r, _ =>
    show (Ag.one v f).with (y :: r) = (Ag.one v f).both ((Ag.one y f).with r)
    rw [both_with, with_cons]

def Mirror (a b : Ag) : Prop := a.cn = b.cn ∧ a.sm = b.sm ∧ a.mn = b.mn ∧ a.mx = b.mx ∧ a.fi = b.la ∧ a.la = b.fi
theorem of_mirror (f : Int) (l : List Int) (hl : 0 < l.length) : Mirror (Ag.of f l) (Ag.of f l.reverse) := by
  induction l with
  | nil => simp at hl
  | cons v r ih =>
    rw [List.reverse_cons]
    by_cases hr : 0 < r.length
    · have hm := ih hr
      rw [of_cons f v r hr, of_snoc f v r.reverse (by simpa using hr)]
      generalize Ag.of f r = A at *
      generalize Ag.of f r.reverse = B at *
      unfold Mirror at *
      unfold Ag.both Ag.one
      simp only
      obtain ⟨h1, h2, h3, h4, h5, h6⟩ := hm
      rw [h1, h2, h3, h4, h6]
      exact ⟨Int.add_comm _ _, Int.add_comm _ _, Int.min_comm _ _, Int.max_comm _ _, trivial, rfl⟩
    · obtain rfl : r = [] := List.eq_nil_of_length_eq_zero (by omega)
      exact ⟨rfl, rfl, rfl, rfl, rfl, rfl⟩

theorem minL_le (r : List Int) : ∀ m, minL m r ≤ m ∧ ∀ v ∈ r, minL m r ≤ v := by
  induction r with
  | nil => intro m; exact ⟨Int.le_refl _, by simp⟩
  | cons x r ih =>
    intro m
    have h := ih (min m x)
    simp only [minL]
    refine ⟨by omega, fun v hv => ?_⟩
    rcases List.mem_cons.1 hv with rfl | hv
    · omega
    · exact h.2 v hv
theorem maxL_le (r : List Int) : ∀ m, m ≤ maxL m r ∧ ∀ v ∈ r, v ≤ maxL m r := by
  induction r with
  | nil => intro m; exact ⟨Int.le_refl _, by simp⟩
  | cons x r ih =>
    intro m
    have h := ih (max m x)
    simp only [maxL]
    refine ⟨by omega, fun v hv => ?_⟩
    rcases List.mem_cons.1 hv with rfl | hv
    · omega
    · exact h.2 v hv
theorem minL_mem (r : List Int) : ∀ m, minL m r = m ∨ minL m r ∈ r := by
  induction r with
  | nil => intro m; exact .inl rfl
  | cons x r ih =>
    intro m
    simp only [minL]
    rcases ih (min m x) with h | h
    · rw [h]
      rcases (show min m x = m ∨ min m x = x by omega) with e | e
      · exact .inl e
      · exact .inr (by rw [e]; simp)
    · exact .inr (by simp [h])
theorem maxL_mem (r : List Int) : ∀ m, maxL m r = m ∨ maxL m r ∈ r := by
  induction r with
  | nil => intro m; exact .inl rfl
  | cons x r ih =>
    intro m
    simp only [maxL]
    rcases ih (max m x) with h | h
    · rw [h]
      rcases (show max m x = m ∨ max m x = x by omega) with e | e
      · exact .inl e
      · exact .inr (by rw [e]; simp)
    · exact .inr (by simp [h])
theorem lastL_get (r : List Int) : ∀ m, lastL m r = (m :: r).getD r.length 0 := by
  induction r with
  | nil => intro m; rfl
  | cons x r ih =>
    intro m
    simp only [lastL]
    rw [ih x]
    rfl

/-- What FoldBounds asks of the aggregate. -/
theorem of_bounds (f : Int) (hf : Ag.begin_ f) (l : List Int) (hl : 0 < l.length) (hn : l.length ≤ 1000) :
    (Ag.of f l).may ∧ (Ag.of f l).fr = f ∧ (Ag.of f l).cn = l.length ∧ (Ag.of f l).sm = sumL l ∧ (Ag.of f l).fi = l.getD 0 0 ∧ (Ag.of f l).la = l.getD (l.length - 1) 0 ∧
      (∀ v ∈ l, (Ag.of f l).mn ≤ v ∧ v ≤ (Ag.of f l).mx) ∧ (Ag.of f l).mn ∈ l ∧ (Ag.of f l).mx ∈ l := by
  match l, hl with
  | v :: r, _ =>
    simp only [List.length_cons] at hn
    have h1 := minL_le r v
    have h2 := maxL_le r v
    refine ⟨?_, rfl, ?_, rfl, rfl, ?_, ?_, ?_, ?_⟩
    · have hla : lastL v r = v ∨ lastL v r ∈ r := by
        rw [lastL_get]
        match r with
        | [] => exact .inl rfl
        | x :: r =>
          refine .inr ?_
          show (x :: r).getD r.length 0 ∈ x :: r
          have hx : r.length < (x :: r).length := by simp
          have e : (x :: r).getD r.length 0 = (x :: r)[r.length] := by simp
          rw [e]
          exact List.getElem_mem hx
      have h3 : minL v r ≤ lastL v r := by
        rcases hla with e | e
        · rw [e]; exact h1.1
        · exact h1.2 _ e
      have h4 : lastL v r ≤ maxL v r := by
        rcases hla with e | e
        · rw [e]; exact h2.1
        · exact h2.2 _ e
      refine ⟨hf, ?_, ⟨⟨h1.1, h3, by show minL v r ≤ maxL v r; omega⟩, h2.1, h4⟩, ?_⟩
      · show (1 : Int) ≤ 1 + _ ∧ (1 : Int) + _ ≤ _
        omega
      · match r with
        | [] => right; exact ⟨by show v + 0 = v; omega, rfl, rfl, rfl⟩
        | x :: r =>
          left
          show (1 : Int) < 1 + ((r.length + 1 : Nat) : Int)
          omega
    · show (1 : Int) + _ = _
      simp only [List.length_cons]
      omega
    · show lastL v r = _
      rw [lastL_get]
      rfl
    · intro u hu
      show minL v r ≤ u ∧ u ≤ maxL v r
      rcases List.mem_cons.1 hu with rfl | hu
      · exact ⟨h1.1, h2.1⟩
      · exact ⟨h1.2 u hu, h2.2 u hu⟩
    · show minL v r ∈ v :: r
      rcases minL_mem r v with e | e
      · rw [e]; simp
      · simp [e]
    · show maxL v r ∈ v :: r
      rcases maxL_mem r v with e | e
      · rw [e]; simp
      · simp [e]
end Go.Proofs.YtepancmkopifpaaGreatDoor
namespace Go.Proofs.YtepancmkopifpaaGreatDoor

def wid (k : Int) : Int := if k = 0 then 1 else if k = 1 then 5 else if k = 2 then 60 else if k = 3 then 1440 else 0
def flr (t k : Int) : Int := if wid k = 0 ∨ ¬ Ag.begin_ t then -1 else t - t % wid k
def coarse (k : Int) : Prop := 1 ≤ k ∧ k ≤ 3
instance (k : Int) : Decidable (coarse k) := by unfold coarse; infer_instance
theorem wid_none {k : Int} (h : k < 0 ∨ 4 ≤ k) : wid k = 0 := by
  unfold wid
  rw [if_neg (by omega), if_neg (by omega), if_neg (by omega), if_neg (by omega)]
theorem wid_some {k : Int} (h0 : 0 ≤ k) (h : k < 4) : 1 ≤ wid k ∧ wid k ≤ 1440 := by
  unfold wid
  split
  · omega
  split
  · omega
  split
  · omega
  split
  · omega
  · omega
theorem wid_bounds (k : Int) : 0 ≤ wid k ∧ wid k ≤ 1440 := by
  by_cases h : 0 ≤ k ∧ k < 4
  · have := wid_some h.1 h.2
    omega
  · rw [wid_none (by omega)]
    omega
theorem emod_le {t m : Int} (ht : 0 ≤ t) (hm : 0 < m) : t % m ≤ t := by
  have h1 := Int.emod_add_mul_ediv t m
  have h2 := Int.mul_nonneg (Int.le_of_lt hm) (Int.ediv_nonneg ht (Int.le_of_lt hm))
  omega
theorem flr_none {t k : Int} (h : wid k = 0 ∨ ¬ Ag.begin_ t) : flr t k = -1 := if_pos h
theorem flr_some {t k : Int} (hw : wid k ≠ 0) (ht : Ag.begin_ t) : flr t k = t - t % wid k := if_neg (by intro h; rcases h with h | h <;> contradiction)
theorem flr_bounds (t k : Int) : -1 ≤ flr t k ∧ flr t k ≤ 1099511627776 := by
  unfold flr
  split
  · omega
  · next h =>
    have h1 : wid k ≠ 0 := fun e => h (.inl e)
    have h2 : Ag.begin_ t := Classical.byContradiction fun e => h (.inr e)
    have hb := wid_bounds k
    have h3 := Int.emod_nonneg t h1
    unfold Ag.begin_ at h2
    have h5 : t % wid k ≤ t := emod_le h2.1 (by omega)
    omega

def tAt (l : List (Int × Int)) (i : Nat) : Int := (l.getD i (0, 0)).1
def riseAt (l : List (Int × Int)) (i : Nat) : Prop := Ag.begin_ (tAt l i) ∧ (0 < i → tAt l (i - 1) < tAt l i)
instance (l : List (Int × Int)) (i : Nat) : Decidable (riseAt l i) := by unfold riseAt; infer_instance
def Rise (l : List (Int × Int)) : Prop := ∀ i, i < l.length → riseAt l i
instance (l : List (Int × Int)) : Decidable (Rise l) := by unfold Rise; infer_instance

def agAt (l : List Ag) (i : Nat) : Ag := l.getD i Ag.zero
def alAt (l : List Ag) (k : Int) (i : Nat) : Prop := (agAt l i).may ∧ (agAt l i).fr = flr (agAt l i).fr k ∧ (0 < i → (agAt l (i - 1)).fr < (agAt l i).fr)
instance (l : List Ag) (k : Int) (i : Nat) : Decidable (alAt l k i) := by unfold alAt; infer_instance
def Align (l : List Ag) (k : Int) : Prop := coarse k ∧ ∀ i, i < l.length → alAt l k i
instance (l : List Ag) (k : Int) : Decidable (Align l k) := by unfold Align; infer_instance
end Go.Proofs.YtepancmkopifpaaGreatDoor
namespace Go.Proofs.YtepancmkopifpaaGreatDoor

/-- How many at the list's head lie below e. -/
def cnt (e : Int) : List (Int × Int) → Nat
  | [] => 0
  | s :: r => if s.1 < e then cnt e r + 1 else 0
theorem cnt_eq {e : Int} : ∀ {l : List (Int × Int)} {k : Nat}, (∀ i, i < k → tAt l i < e) → k ≤ l.length → (k < l.length → ¬ tAt l k < e) → cnt e l = k
  | [], k, _, h2, _ => by
    have : k = 0 := by simpa using h2
    rw [this]; rfl
  | s :: r, 0, _, _, h3 => by
    have h : ¬ s.1 < e := h3 (by simp)
    show (if s.1 < e then cnt e r + 1 else 0) = 0
    rw [if_neg h]
  | s :: r, k + 1, h1, h2, h3 => by
    have h : s.1 < e := h1 0 (by omega)
    show (if s.1 < e then cnt e r + 1 else 0) = k + 1
    rw [if_pos h, cnt_eq (k := k) (fun i hi => h1 (i + 1) (by omega)) (by simpa using h2) (fun hk => h3 (by simpa using hk))]
theorem cnt_le (e : Int) : ∀ l : List (Int × Int), cnt e l ≤ l.length
  | [] => Nat.le_refl _
  | s :: r => by
    have := cnt_le e r
    unfold cnt
    split
    · simpa using this
    · simp

/-- What Raw says of the rest behind the windows so far. -/
def rawOn (k : Int) (out : List Ag) : List (Int × Int) → List Ag × Int
  | [] => (out, 0)
  | s :: r =>
    if (all (flr s.1 k) (s.2 :: (r.take (cnt (flr s.1 k + wid k) r)).map (·.2))).2 = 0 then
      rawOn k (out ++ [(all (flr s.1 k) (s.2 :: (r.take (cnt (flr s.1 k + wid k) r)).map (·.2))).1]) (r.drop (cnt (flr s.1 k + wid k) r))
    else ([], (all (flr s.1 k) (s.2 :: (r.take (cnt (flr s.1 k + wid k) r)).map (·.2))).2)
termination_by l => l.length
decreasing_by
  simp only [List.length_drop, List.length_cons]
  omega
def raw (l : List (Int × Int)) (k : Int) : List Ag × Int := if coarse k ∧ Rise l then rawOn k [] l else ([], 1)
theorem rawOn_cons (k : Int) (out : List Ag) (s : Int × Int) (r : List (Int × Int)) {c : Nat} {x : Ag × Int} (hc : cnt (flr s.1 k + wid k) r = c) (hx : all (flr s.1 k) (s.2 :: (r.take c).map (·.2)) = x) :
    rawOn k out (s :: r) = if x.2 = 0 then rawOn k (out ++ [x.1]) (r.drop c) else ([], x.2) := by
  rw [rawOn, hc, hx]

def Ag.at_ (a : Ag) (k : Int) : Ag := ⟨flr a.fr k, a.cn, a.sm, a.mn, a.mx, a.fi, a.la⟩
/-- What Down says of the rest behind the windows so far. -/
def downOn (k : Int) (out : List Ag) : List Ag → List Ag × Int
  | [] => (out, 0)
  | a :: r =>
    if 0 < out.length ∧ (agAt out (out.length - 1)).fr = flr a.fr k then
      if (join (agAt out (out.length - 1)) (a.at_ k)).2 = 0 then downOn k (out.set (out.length - 1) (join (agAt out (out.length - 1)) (a.at_ k)).1) r
      else ([], (join (agAt out (out.length - 1)) (a.at_ k)).2)
    else downOn k (out ++ [a.at_ k]) r
def down (l : List Ag) (k : Int) : List Ag × Int := if coarse k ∧ Align l (k - 1) then downOn k [] l else ([], 1)

theorem coarse_wid {k : Int} (h : coarse k) : 5 ≤ wid k ∧ wid k ≤ 1440 := by
  unfold coarse at h
  unfold wid
  rw [if_neg (by omega)]
  split
  · omega
  split
  · omega
  split
  · omega
  · omega
theorem flr_le {t k : Int} (hk : coarse k) (ht : Ag.begin_ t) : 0 ≤ flr t k ∧ flr t k ≤ t ∧ t < flr t k + wid k := by
  have hw := coarse_wid hk
  rw [flr_some (by omega) ht]
  unfold Ag.begin_ at ht
  have h1 := Int.emod_nonneg t (show wid k ≠ 0 by omega)
  have h2 := Int.emod_lt_of_pos t (show 0 < wid k by omega)
  have h3 := emod_le (m := wid k) ht.1 (by omega)
  omega
theorem flr_begin {t k : Int} (hk : coarse k) (ht : Ag.begin_ t) : Ag.begin_ (flr t k) := by
  have := flr_le hk ht
  unfold Ag.begin_ at *
  omega
theorem rise_tail {s : Int × Int} {r : List (Int × Int)} (h : Rise (s :: r)) : Rise r := fun i hi => by
  have h1 := h (i + 1) (by simpa using hi)
  refine ⟨h1.1, fun h0 => ?_⟩
  have h2 := h1.2 (by omega)
  obtain ⟨j, rfl⟩ : ∃ j, i = j + 1 := ⟨i - 1, by omega⟩
  exact h2
theorem rise_drop : ∀ (c : Nat) {r : List (Int × Int)}, Rise r → Rise (r.drop c)
  | 0, _, h => h
  | _ + 1, [], h => h
  | c + 1, _ :: _, h => rise_drop c (rise_tail h)
theorem rise_head {s : Int × Int} {r : List (Int × Int)} (h : Rise (s :: r)) : Ag.begin_ s.1 := (h 0 (by simp)).1
theorem at_may {a : Ag} {k : Int} (hk : coarse k) (h : a.may) : (a.at_ k).may := ⟨flr_begin hk h.1, h.2⟩
theorem at_ok {a : Ag} {k : Int} (h : a.ok) : (a.at_ k).ok := by
  have hb := flr_bounds a.fr k
  exact ⟨by show In64 (flr a.fr k); unfold In64; omega, h.2⟩
end Go.Proofs.YtepancmkopifpaaGreatDoor
