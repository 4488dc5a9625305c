/-
  Plain arithmetic of what samples come to: when an aggregate may be, what two joined are, what a list comes to. No program in it.
  Plain arithmetic of lists that are cut in two, and of lists of small values. No program in it.
  Plain arithmetic of lists of values up to a billion: what they come to; turned round; their bounds. No program in it.
  Plain arithmetic of windows: widths, floors, samples that rise, windows that are aligned, what they come to. No program in it.
  Plain arithmetic of what windows come to: of samples (rawOn), of finer windows (downOn). No program in it.
  Plain arithmetic of windows of samples of values up to a billion: what they are, gone for sample by sample; from fine to coarse by steps or at once. No program in it.
-/
namespace Go.Proofs.YtfojciolhokejaaDoor

/-- An aggregate: from, count, sum, least, greatest, first, last. -/
structure Ag where
  fr : Int
  cn : Int
  sm : Int
  mn : Int
  mx : Int
  fi : Int
  la : Int

def In64 (a : Int) : Prop := -9223372036854775808 ≤ a ∧ a ≤ 9223372036854775807
instance (a : Int) : Decidable (In64 a) := by unfold In64; infer_instance

def Ag.zero : Ag := ⟨0, 0, 0, 0, 0, 0, 0⟩
def Ag.one (v f : Int) : Ag := ⟨f, 1, v, v, v, v, v⟩
def Ag.ok (a : Ag) : Prop := In64 a.fr ∧ In64 a.cn ∧ In64 a.sm ∧ In64 a.mn ∧ In64 a.mx ∧ In64 a.fi ∧ In64 a.la
def Ag.begin_ (f : Int) : Prop := 0 ≤ f ∧ f ≤ 1099511627776
def Ag.count (n : Int) : Prop := 1 ≤ n ∧ n ≤ 1099511627776
def Ag.hold (a : Ag) : Prop := (a.mn ≤ a.fi ∧ a.mn ≤ a.la ∧ a.mn ≤ a.mx) ∧ a.fi ≤ a.mx ∧ a.la ≤ a.mx
def Ag.alike (a : Ag) : Prop := a.sm = a.mn ∧ a.mn = a.mx ∧ a.mx = a.fi ∧ a.fi = a.la
instance (f : Int) : Decidable (Ag.begin_ f) := by unfold Ag.begin_; infer_instance
instance (f : Int) : Decidable (Ag.count f) := by unfold Ag.count; infer_instance
instance (a : Ag) : Decidable a.hold := by unfold Ag.hold; infer_instance
instance (a : Ag) : Decidable a.alike := by unfold Ag.alike; infer_instance
def Ag.may (a : Ag) : Prop := Ag.begin_ a.fr ∧ Ag.count a.cn ∧ a.hold ∧ (1 < a.cn ∨ a.alike)
instance (a : Ag) : Decidable a.may := by unfold Ag.may; infer_instance

def Ag.both (a b : Ag) : Ag := ⟨a.fr, a.cn + b.cn, a.sm + b.sm, min a.mn b.mn, max a.mx b.mx, a.fi, b.la⟩
/-- What Join says. -/
def join (a b : Ag) : Ag × Int :=
  if a.may ∧ b.may ∧ a.cn + b.cn ≤ 1099511627776 then
    if In64 (a.sm + b.sm) then (a.both b, 0) else (Ag.zero, 3)
  else (Ag.zero, 1)

/-- What All says of values behind what was joined so far. -/
def goOn (f : Int) : Ag → List Int → Ag × Int
  | a, [] => (a, 0)
  | a, v :: r => if (join a (.one v f)).2 = 0 then goOn f (join a (.one v f)).1 r else join a (.one v f)
def all (f : Int) : List Int → Ag × Int
  | [] => (Ag.zero, 1)
  | v :: r => if Ag.begin_ f then goOn f (.one v f) r else (Ag.zero, 1)

theorem one_may {v f : Int} (hf : Ag.begin_ f) : (Ag.one v f).may := by
  unfold Ag.may Ag.count Ag.hold Ag.alike Ag.one
  exact ⟨hf, by simp, by simp, .inr ⟨rfl, rfl, rfl, rfl⟩⟩
theorem one_ok {v f : Int} (hf : Ag.begin_ f) (hv : In64 v) : (Ag.one v f).ok := by
  have h1 : In64 f := by
    unfold Ag.begin_ at hf
    unfold In64
    omega
  exact ⟨h1, by show In64 1; decide, hv, hv, hv, hv, hv⟩
theorem both_may {a b : Ag} (ha : a.may) (hb : b.may) (hc : a.cn + b.cn ≤ 1099511627776) : (a.both b).may := by
  unfold Ag.may Ag.begin_ Ag.count Ag.hold Ag.alike at *
  unfold Ag.both
  simp only
  omega
theorem both_ok {a b : Ag} (ha : a.ok) (hb : b.ok) (ma : a.may) (mb : b.may) (hc : a.cn + b.cn ≤ 1099511627776) (hs : In64 (a.sm + b.sm)) : (a.both b).ok := by
  unfold Ag.may Ag.begin_ Ag.count at ma mb
  unfold Ag.ok In64 at *
  unfold Ag.both
  simp only
  omega
theorem zero_ok : Ag.zero.ok := by unfold Ag.ok Ag.zero In64; simp
theorem join_ok {a b : Ag} (ha : a.ok) (hb : b.ok) : (join a b).1.ok := by
  unfold join
  split
  · next h =>
    split
    · next hs => exact both_ok ha hb h.1 h.2.1 h.2.2 hs
    · exact zero_ok
  · exact zero_ok
theorem join_code (a b : Ag) : (join a b).2 = 0 ∨ (join a b).2 = 1 ∨ (join a b).2 = 3 := by
  unfold join
  split
  · split
    · exact .inl rfl
    · exact .inr (.inr rfl)
  · exact .inr (.inl rfl)
theorem join_zero {a b : Ag} (h : (join a b).2 = 0) : a.may ∧ b.may ∧ a.cn + b.cn ≤ 1099511627776 ∧ In64 (a.sm + b.sm) ∧ (join a b).1 = a.both b := by
  unfold join at h ⊢
  split at h
  · next h1 =>
    split at h
    · next h2 => exact ⟨h1.1, h1.2.1, h1.2.2, h2, by rw [if_pos h1, if_pos h2]⟩
    · simp at h
  · simp at h

/-- Three joined one way and the other. -/
theorem join_threes {a b c : Ag} (e : (join a b).2 = 0) (f : (join (join a b).1 c).2 = 0) (g : (join b c).2 = 0) (h : (join a (join b c).1).2 = 0) :
    (join (join a b).1 c).1 = (join a (join b c).1).1 ∧ (join (join a b).1 c).1.may ∧ (join (join a b).1 c).1.fr = a.fr ∧ (join (join a b).1 c).1.fi = a.fi ∧ (join (join a b).1 c).1.la = c.la := by
  obtain ⟨e1, e2, e3, e4, e5⟩ := join_zero e
  obtain ⟨f1, f2, f3, f4, f5⟩ := join_zero f
  obtain ⟨g1, g2, g3, g4, g5⟩ := join_zero g
  obtain ⟨h1, h2, h3, h4, h5⟩ := join_zero h
  rw [f5, h5]
  refine ⟨?_, both_may f1 f2 f3, ?_⟩
  · rw [e5, g5]
    unfold Ag.both
    simp only [Ag.mk.injEq, true_and, and_true]
    exact ⟨Int.add_assoc _ _ _, Int.add_assoc _ _ _, Int.min_assoc _ _ _, Int.max_assoc _ _ _⟩
  · rw [e5]
    exact ⟨rfl, rfl, rfl⟩

/-- What values come to, gone for by itself. -/
def sumL : List Int → Int
  | [] => 0
  | v :: r => v + sumL r
def minL (m : Int) : List Int → Int
  | [] => m
  | v :: r => minL (min m v) r
def maxL (m : Int) : List Int → Int
  | [] => m
  | v :: r => maxL (max m v) r
def lastL (m : Int) : List Int → Int
  | [] => m
  | v :: r => lastL v r

/-- What All says where nothing goes beyond 64 bits. -/
def Ag.with (a : Ag) (r : List Int) : Ag := ⟨a.fr, a.cn + r.length, a.sm + sumL r, minL a.mn r, maxL a.mx r, a.fi, lastL a.la r⟩
theorem with_nil (a : Ag) : a.with [] = a := by unfold Ag.with sumL minL maxL lastL; simp
theorem with_cons (a : Ag) (f v : Int) (r : List Int) : (a.both (.one v f)).with r = a.with (v :: r) := by
  unfold Ag.with Ag.both Ag.one
  simp only [sumL, minL, maxL, lastL, List.length_cons, Ag.mk.injEq, true_and, and_true]
  omega

theorem goOn_says (f : Int) (hf : Ag.begin_ f) : ∀ (r : List Int) (a : Ag), a.may → a.cn + r.length ≤ 1099511627776 → goOn f a r = (a.with r, 0) ∨ goOn f a r = (Ag.zero, 3)
  | [], a, _, _ => .inl (by rw [with_nil]; rfl)
  | v :: r, a, ha, hc => by
    have hc' : a.cn + (Ag.one v f).cn ≤ 1099511627776 := by
      simp only [List.length_cons] at hc
      unfold Ag.one
      simp only
      omega
    by_cases hs : In64 (a.sm + (Ag.one v f).sm)
    · have hj : join a (.one v f) = (a.both (.one v f), 0) := by
        unfold join
        rw [if_pos ⟨ha, one_may hf, hc'⟩, if_pos hs]
      unfold goOn
      rw [hj]
      simp only [if_pos]
      rw [← with_cons a f v r]
      refine goOn_says f hf r _ (both_may ha (one_may hf) hc') ?_
      simp only [List.length_cons] at hc
      unfold Ag.both Ag.one
      simp only
      omega
    · have hj : join a (.one v f) = (Ag.zero, 3) := by
        unfold join
        rw [if_pos ⟨ha, one_may hf, hc'⟩, if_neg hs]
      unfold goOn
      rw [hj]
      right
      simp

/-- Values up to a billion: nothing goes beyond 64 bits. -/
theorem goOn_small (f : Int) (hf : Ag.begin_ f) : ∀ (r : List Int) (a : Ag), a.may → a.cn + r.length ≤ 1000000 → (∀ v ∈ r, -1000000000 < v ∧ v < 1000000000) →
    -1000000000 * a.cn ≤ a.sm → a.sm ≤ 1000000000 * a.cn → goOn f a r = (a.with r, 0)
  | [], a, _, _, _, _, _ => by rw [with_nil]; rfl
  | v :: r, a, ha, hc, hv, h1, h2 => by
    have hv0 := hv v (by simp)
    simp only [List.length_cons] at hc
    have hc' : a.cn + (Ag.one v f).cn ≤ 1099511627776 := by
      unfold Ag.one
      simp only
      omega
    have hs : In64 (a.sm + (Ag.one v f).sm) := by
      unfold In64 Ag.one
      simp only
      omega
    have hj : join a (.one v f) = (a.both (.one v f), 0) := by
      unfold join
      rw [if_pos ⟨ha, one_may hf, hc'⟩, if_pos hs]
    unfold goOn
    rw [hj]
    simp only [if_pos]
    rw [← with_cons a f v r]
    refine goOn_small f hf r _ (both_may ha (one_may hf) hc') ?_ (fun u hu => hv u (by simp [hu])) ?_ ?_
    all_goals
      unfold Ag.both Ag.one
      simp only
      omega
end Go.Proofs.YtfojciolhokejaaDoor
namespace Go.Proofs.YtfojciolhokejaaDoor

theorem sumL_append (xs ys : List Int) : sumL (xs ++ ys) = sumL xs + sumL ys := by
  induction xs with
  | nil => simp [sumL]
  | cons v r ih => simp only [List.cons_append, sumL, ih]; omega
theorem minL_append (xs ys : List Int) : ∀ m, minL m (xs ++ ys) = minL (minL m xs) ys := by
  induction xs with
  | nil => intro m; rfl
  | cons v r ih => intro m; simp only [List.cons_append, minL, ih]
theorem maxL_append (xs ys : List Int) : ∀ m, maxL m (xs ++ ys) = maxL (maxL m xs) ys := by
  induction xs with
  | nil => intro m; rfl
  | cons v r ih => intro m; simp only [List.cons_append, maxL, ih]
theorem lastL_append (xs ys : List Int) : ∀ m, lastL m (xs ++ ys) = lastL (lastL m xs) ys := by
  induction xs with
  | nil => intro m; rfl
  | cons v r ih => intro m; simp only [List.cons_append, lastL, ih]
theorem minL_min (r : List Int) : ∀ a b, minL (min a b) r = min a (minL b r) := by
  induction r with
  | nil => intro a b; rfl
  | cons v r ih => intro a b; simp only [minL]; rw [Int.min_assoc, ih]
theorem maxL_max (r : List Int) : ∀ a b, maxL (max a b) r = max a (maxL b r) := by
  induction r with
  | nil => intro a b; rfl
  | cons v r ih => intro a b; simp only [maxL]; rw [Int.max_assoc, ih]

theorem with_append (a : Ag) (xs ys : List Int) : a.with (xs ++ ys) = (a.with xs).with ys := by
  unfold Ag.with
  simp only [Ag.mk.injEq, true_and, sumL_append, minL_append, maxL_append, lastL_append, List.length_append, and_true]
  omega
theorem both_with (a b : Ag) (r : List Int) : a.both (b.with r) = (a.both b).with r := by
  unfold Ag.with Ag.both
  simp only [Ag.mk.injEq, true_and, minL_min, maxL_max, and_true]
  omega

theorem all_says (f : Int) (hf : Ag.begin_ f) (v : Int) (r : List Int) (hl : r.length ≤ 1000000) : all f (v :: r) = ((Ag.one v f).with r, 0) ∨ all f (v :: r) = (Ag.zero, 3) := by
  have e : all f (v :: r) = goOn f (.one v f) r := by
    show (if Ag.begin_ f then _ else _) = _
    rw [if_pos hf]
  rw [e]
  refine goOn_says f hf r _ (one_may hf) ?_
  show (1 : Int) + _ ≤ _
  omega
theorem goOn_ok (f : Int) (hf : Ag.begin_ f) : ∀ (r : List Int) (a : Ag), a.ok → (∀ v ∈ r, In64 v) → (goOn f a r).1.ok
  | [], a, ha, _ => ha
  | v :: r, a, ha, hr => by
    unfold goOn
    have hj := join_ok ha (one_ok (v := v) hf (hr v (by simp)))
    split
    · exact goOn_ok f hf r _ hj (fun u hu => hr u (by simp [hu]))
    · exact hj
theorem all_ok (f : Int) (hf : Ag.begin_ f) (l : List Int) (hl : ∀ v ∈ l, In64 v) : (all f l).1.ok := by
  match l with
  | [] => exact zero_ok
  | v :: r =>
    have e : all f (v :: r) = goOn f (.one v f) r := by
      show (if Ag.begin_ f then _ else _) = _
      rw [if_pos hf]
    rw [e]
    exact goOn_ok f hf r _ (one_ok hf (hl v (by simp))) (fun u hu => hl u (by simp [hu]))

/-- What FoldParts asks. -/
theorem parts_says (f g : Int) (hf : Ag.begin_ f) (hg : Ag.begin_ g) (x y : Int) (xs ys : List Int) (hx : xs.length ≤ 1000) (hy : ys.length ≤ 1000) :
    ((all f (x :: xs)).2 = 0 ∨ (all f (x :: xs)).2 = 3) ∧ ((all g (y :: ys)).2 = 0 ∨ (all g (y :: ys)).2 = 3) ∧ ((all f (x :: xs ++ y :: ys)).2 = 0 ∨ (all f (x :: xs ++ y :: ys)).2 = 3) ∧
    ((all f (x :: xs)).2 = 0 → (all g (y :: ys)).2 = 0 → (all f (x :: xs ++ y :: ys)).2 = 0 → (join (all f (x :: xs)).1 (all g (y :: ys)).1).2 = 0 →
      (all f (x :: xs ++ y :: ys)).1 = (join (all f (x :: xs)).1 (all g (y :: ys)).1).1) := by
  have h1 := all_says f hf x xs (by omega)
  have h2 := all_says g hg y ys (by omega)
  have h3 := all_says f hf x (xs ++ y :: ys) (by simp; omega)
  rw [show x :: xs ++ y :: ys = x :: (xs ++ y :: ys) from rfl]
  refine ⟨?_, ?_, ?_, fun e1 e2 e3 e4 => ?_⟩
  · rcases h1 with h | h <;> rw [h] <;> simp
  · rcases h2 with h | h <;> rw [h] <;> simp
  · rcases h3 with h | h <;> rw [h] <;> simp
  · rcases h1 with h1 | h1
    · rcases h2 with h2 | h2
      · rcases h3 with h3 | h3
        · have hz := (join_zero e4).2.2.2.2
          rw [hz, h1, h2, h3]
          simp only
          rw [both_with, with_cons, ← with_append]
        · rw [h3] at e3; simp at e3
      · rw [h2] at e2; simp at e2
    · rw [h1] at e1; simp at e1
end Go.Proofs.YtfojciolhokejaaDoor
namespace Go.Proofs.YtfojciolhokejaaDoor

/-- What a list comes to where nothing goes beyond 64 bits. -/
def Ag.of (f : Int) : List Int → Ag
  | [] => Ag.zero
  | v :: r => (Ag.one v f).with r
theorem all_small (f : Int) (hf : Ag.begin_ f) (l : List Int) (hl : 0 < l.length) (hn : l.length ≤ 1000) (hv : ∀ v ∈ l, -1000000000 < v ∧ v < 1000000000) : all f l = (Ag.of f l, 0) := by
  match l, hl with
  | v :: r, _ =>
    have e : all f (v :: r) = goOn f (.one v f) r := by
      show (if Ag.begin_ f then _ else _) = _
      rw [if_pos hf]
    rw [e]
    have h0 := hv v (by simp)
    simp only [List.length_cons] at hn
    refine goOn_small f hf r _ (one_may hf) ?_ (fun u hu => hv u (by simp [hu])) ?_ ?_
    · show (1 : Int) + _ ≤ _
      omega
    · show -1000000000 * (1 : Int) ≤ v
      omega
    · show v ≤ 1000000000 * (1 : Int)
      omega
theorem of_snoc (f v : Int) (l : List Int) (hl : 0 < l.length) : Ag.of f (l ++ [v]) = (Ag.of f l).both (.one v f) := by
  match l, hl with
  | x :: r, _ =>
    show (Ag.one x f).with (r ++ [v]) = ((Ag.one x f).with r).both (.one v f)
    rw [with_append, ← with_cons _ f, with_nil]
theorem of_cons (f v : Int) (l : List Int) (hl : 0 < l.length) : Ag.of f (v :: l) = (Ag.one v f).both (Ag.of f l) := by
  match l, hl with
  | y :: r, _ =>
    show (Ag.one v f).with (y :: r) = (Ag.one v f).both ((Ag.one y f).with r)
    rw [both_with, with_cons]

def Mirror (a b : Ag) : Prop := a.cn = b.cn ∧ a.sm = b.sm ∧ a.mn = b.mn ∧ a.mx = b.mx ∧ a.fi = b.la ∧ a.la = b.fi
theorem of_mirror (f : Int) (l : List Int) (hl : 0 < l.length) : Mirror (Ag.of f l) (Ag.of f l.reverse) := by
  induction l with
  | nil => simp at hl
  | cons v r ih =>
    rw [List.reverse_cons]
    by_cases hr : 0 < r.length
    · have hm := ih hr
      rw [of_cons f v r hr, of_snoc f v r.reverse (by simpa using hr)]
      generalize Ag.of f r = A at *
      generalize Ag.of f r.reverse = B at *
      unfold Mirror at *
      unfold Ag.both Ag.one
      simp only
      obtain ⟨h1, h2, h3, h4, h5, h6⟩ := hm
      rw [h1, h2, h3, h4, h6]
      exact ⟨Int.add_comm _ _, Int.add_comm _ _, Int.min_comm _ _, Int.max_comm _ _, trivial, rfl⟩
    · obtain rfl : r = [] := List.eq_nil_of_length_eq_zero (by omega)
      exact ⟨rfl, rfl, rfl, rfl, rfl, rfl⟩

theorem minL_le (r : List Int) : ∀ m, minL m r ≤ m ∧ ∀ v ∈ r, minL m r ≤ v := by
  induction r with
  | nil => intro m; exact ⟨Int.le_refl _, by simp⟩
  | cons x r ih =>
    intro m
    have h := ih (min m x)
    simp only [minL]
    refine ⟨by omega, fun v hv => ?_⟩
    rcases List.mem_cons.1 hv with rfl | hv
    · omega
    · exact h.2 v hv
theorem maxL_le (r : List Int) : ∀ m, m ≤ maxL m r ∧ ∀ v ∈ r, v ≤ maxL m r := by
  induction r with
  | nil => intro m; exact ⟨Int.le_refl _, by simp⟩
  | cons x r ih =>
    intro m
    have h := ih (max m x)
    simp only [maxL]
    refine ⟨by omega, fun v hv => ?_⟩
    rcases List.mem_cons.1 hv with rfl | hv
    · omega
    · exact h.2 v hv
theorem minL_mem (r : List Int) : ∀ m, minL m r = m ∨ minL m r ∈ r := by
  induction r with
  | nil => intro m; exact .inl rfl
  | cons x r ih =>
    intro m
    simp only [minL]
    rcases ih (min m x) with h | h
    · rw [h]
      rcases (show min m x = m ∨ min m x = x by omega) with e | e
      · exact .inl e
      · exact .inr (by rw [e]; simp)
    · exact .inr (by simp [h])
theorem maxL_mem (r : List Int) : ∀ m, maxL m r = m ∨ maxL m r ∈ r := by
  induction r with
  | nil => intro m; exact .inl rfl
  | cons x r ih =>
    intro m
    simp only [maxL]
    rcases ih (max m x) with h | h
    · rw [h]
      rcases (show max m x = m ∨ max m x = x by omega) with e | e
      · exact .inl e
      · exact .inr (by rw [e]; simp)
    · exact .inr (by simp [h])
theorem lastL_get (r : List Int) : ∀ m, lastL m r = (m :: r).getD r.length 0 := by
  induction r with
  | nil => intro m; rfl
  | cons x r ih =>
    intro m
    simp only [lastL]
    rw [ih x]
    rfl

/-- What FoldBounds asks of the aggregate. -/
theorem of_bounds (f : Int) (hf : Ag.begin_ f) (l : List Int) (hl : 0 < l.length) (hn : l.length ≤ 1000) :
    (Ag.of f l).may ∧ (Ag.of f l).fr = f ∧ (Ag.of f l).cn = l.length ∧ (Ag.of f l).sm = sumL l ∧ (Ag.of f l).fi = l.getD 0 0 ∧ (Ag.of f l).la = l.getD (l.length - 1) 0 ∧
      (∀ v ∈ l, (Ag.of f l).mn ≤ v ∧ v ≤ (Ag.of f l).mx) ∧ (Ag.of f l).mn ∈ l ∧ (Ag.of f l).mx ∈ l := by
  match l, hl with
  | v :: r, _ =>
    simp only [List.length_cons] at hn
    have h1 := minL_le r v
    have h2 := maxL_le r v
    refine ⟨?_, rfl, ?_, rfl, rfl, ?_, ?_, ?_, ?_⟩
    · have hla : lastL v r = v ∨ lastL v r ∈ r := by
        rw [lastL_get]
        match r with
        | [] => exact .inl rfl
        | x :: r =>
          refine .inr ?_
          show (x :: r).getD r.length 0 ∈ x :: r
          have hx : r.length < (x :: r).length := by simp
          have e : (x :: r).getD r.length 0 = (x :: r)[r.length] := by simp
          rw [e]
          exact List.getElem_mem hx
      have h3 : minL v r ≤ lastL v r := by
        rcases hla with e | e
        · rw [e]; exact h1.1
        · exact h1.2 _ e
      have h4 : lastL v r ≤ maxL v r := by
        rcases hla with e | e
        · rw [e]; exact h2.1
        · exact h2.2 _ e
      refine ⟨hf, ?_, ⟨⟨h1.1, h3, by show minL v r ≤ maxL v r; omega⟩, h2.1, h4⟩, ?_⟩
      · show (1 : Int) ≤ 1 + _ ∧ (1 : Int) + _ ≤ _
        omega
      · match r with
        | [] => right; exact ⟨by show v + 0 = v; omega, rfl, rfl, rfl⟩
        | x :: r =>
          left
          show (1 : Int) < 1 + ((r.length + 1 : Nat) : Int)
          omega
    · show (1 : Int) + _ = _
      simp only [List.length_cons]
      omega
    · show lastL v r = _
      rw [lastL_get]
      rfl
    · intro u hu
      show minL v r ≤ u ∧ u ≤ maxL v r
      rcases List.mem_cons.1 hu with rfl | hu
      · exact ⟨h1.1, h2.1⟩
      · exact ⟨h1.2 u hu, h2.2 u hu⟩
    · show minL v r ∈ v :: r
      rcases minL_mem r v with e | e
      · rw [e]; simp
      · simp [e]
    · show maxL v r ∈ v :: r
      rcases maxL_mem r v with e | e
      · rw [e]; simp
      · simp [e]
end Go.Proofs.YtfojciolhokejaaDoor
namespace Go.Proofs.YtfojciolhokejaaDoor

def wid (k : Int) : Int := if k = 0 then 1 else if k = 1 then 5 else if k = 2 then 60 else if k = 3 then 1440 else 0
def flr (t k : Int) : Int := if wid k = 0 ∨ ¬ Ag.begin_ t then -1 else t - t % wid k
def coarse (k : Int) : Prop := 1 ≤ k ∧ k ≤ 3
instance (k : Int) : Decidable (coarse k) := by unfold coarse; infer_instance
theorem wid_none {k : Int} (h : k < 0 ∨ 4 ≤ k) : wid k = 0 := by
  unfold wid
  rw [if_neg (by omega), if_neg (by omega), if_neg (by omega), if_neg (by omega)]
theorem wid_some {k : Int} (h0 : 0 ≤ k) (h : k < 4) : 1 ≤ wid k ∧ wid k ≤ 1440 := by
  unfold wid
  split
  · omega
  split
  · omega
  split
  · omega
  split
  · omega
  · omega
theorem wid_bounds (k : Int) : 0 ≤ wid k ∧ wid k ≤ 1440 := by
  by_cases h : 0 ≤ k ∧ k < 4
  · have := wid_some h.1 h.2
    omega
  · rw [wid_none (by omega)]
    omega
theorem emod_le {t m : Int} (ht : 0 ≤ t) (hm : 0 < m) : t % m ≤ t := by
  have h1 := Int.emod_add_mul_ediv t m
  have h2 := Int.mul_nonneg (Int.le_of_lt hm) (Int.ediv_nonneg ht (Int.le_of_lt hm))
  omega
theorem flr_none {t k : Int} (h : wid k = 0 ∨ ¬ Ag.begin_ t) : flr t k = -1 := if_pos h
theorem flr_some {t k : Int} (hw : wid k ≠ 0) (ht : Ag.begin_ t) : flr t k = t - t % wid k := if_neg (by intro h; rcases h with h | h <;> contradiction)
theorem flr_bounds (t k : Int) : -1 ≤ flr t k ∧ flr t k ≤ 1099511627776 := by
  unfold flr
  split
  · omega
  · next h =>
    have h1 : wid k ≠ 0 := fun e => h (.inl e)
    have h2 : Ag.begin_ t := Classical.byContradiction fun e => h (.inr e)
    have hb := wid_bounds k
    have h3 := Int.emod_nonneg t h1
    unfold Ag.begin_ at h2
    have h5 : t % wid k ≤ t := emod_le h2.1 (by omega)
    omega

def tAt (l : List (Int × Int)) (i : Nat) : Int := (l.getD i (0, 0)).1
def riseAt (l : List (Int × Int)) (i : Nat) : Prop := Ag.begin_ (tAt l i) ∧ (0 < i → tAt l (i - 1) < tAt l i)
instance (l : List (Int × Int)) (i : Nat) : Decidable (riseAt l i) := by unfold riseAt; infer_instance
def Rise (l : List (Int × Int)) : Prop := ∀ i, i < l.length → riseAt l i
instance (l : List (Int × Int)) : Decidable (Rise l) := by unfold Rise; infer_instance

def agAt (l : List Ag) (i : Nat) : Ag := l.getD i Ag.zero
def alAt (l : List Ag) (k : Int) (i : Nat) : Prop := (agAt l i).may ∧ (agAt l i).fr = flr (agAt l i).fr k ∧ (0 < i → (agAt l (i - 1)).fr < (agAt l i).fr)
instance (l : List Ag) (k : Int) (i : Nat) : Decidable (alAt l k i) := by unfold alAt; infer_instance
def Align (l : List Ag) (k : Int) : Prop := coarse k ∧ ∀ i, i < l.length → alAt l k i
instance (l : List Ag) (k : Int) : Decidable (Align l k) := by unfold Align; infer_instance
end Go.Proofs.YtfojciolhokejaaDoor
namespace Go.Proofs.YtfojciolhokejaaDoor

/-- How many at the list's head lie below e. -/
def cnt (e : Int) : List (Int × Int) → Nat
  | [] => 0
  | s :: r => if s.1 < e then cnt e r + 1 else 0
theorem cnt_eq {e : Int} : ∀ {l : List (Int × Int)} {k : Nat}, (∀ i, i < k → tAt l i < e) → k ≤ l.length → (k < l.length → ¬ tAt l k < e) → cnt e l = k
  | [], k, _, h2, _ => by
    have : k = 0 := by simpa using h2
    rw [this]; rfl
  | s :: r, 0, _, _, h3 => by
    have h : ¬ s.1 < e := h3 (by simp)
    show (if s.1 < e then cnt e r + 1 else 0) = 0
    rw [if_neg h]
  | s :: r, k + 1, h1, h2, h3 => by
    have h : s.1 < e := h1 0 (by omega)
    show (if s.1 < e then cnt e r + 1 else 0) = k + 1
    rw [if_pos h, cnt_eq (k := k) (fun i hi => h1 (i + 1) (by omega)) (by simpa using h2) (fun hk => h3 (by simpa using hk))]
theorem cnt_le (e : Int) : ∀ l : List (Int × Int), cnt e l ≤ l.length
  | [] => Nat.le_refl _
  | s :: r => by
    have := cnt_le e r
    unfold cnt
    split
    · simpa using this
    · simp

/-- What Raw says of the rest behind the windows so far. -/
def rawOn (k : Int) (out : List Ag) : List (Int × Int) → List Ag × Int
  | [] => (out, 0)
  | s :: r =>
    if (all (flr s.1 k) (s.2 :: (r.take (cnt (flr s.1 k + wid k) r)).map (·.2))).2 = 0 then
      rawOn k (out ++ [(all (flr s.1 k) (s.2 :: (r.take (cnt (flr s.1 k + wid k) r)).map (·.2))).1]) (r.drop (cnt (flr s.1 k + wid k) r))
    else ([], (all (flr s.1 k) (s.2 :: (r.take (cnt (flr s.1 k + wid k) r)).map (·.2))).2)
termination_by l => l.length
decreasing_by
  simp only [List.length_drop, List.length_cons]
  omega
def raw (l : List (Int × Int)) (k : Int) : List Ag × Int := if coarse k ∧ Rise l then rawOn k [] l else ([], 1)
theorem rawOn_cons (k : Int) (out : List Ag) (s : Int × Int) (r : List (Int × Int)) {c : Nat} {x : Ag × Int} (hc : cnt (flr s.1 k + wid k) r = c) (hx : all (flr s.1 k) (s.2 :: (r.take c).map (·.2)) = x) :
    rawOn k out (s :: r) = if x.2 = 0 then rawOn k (out ++ [x.1]) (r.drop c) else ([], x.2) := by
  rw [rawOn, hc, hx]

def Ag.at_ (a : Ag) (k : Int) : Ag := ⟨flr a.fr k, a.cn, a.sm, a.mn, a.mx, a.fi, a.la⟩
/-- What Down says of the rest behind the windows so far. -/
def downOn (k : Int) (out : List Ag) : List Ag → List Ag × Int
  | [] => (out, 0)
  | a :: r =>
    if 0 < out.length ∧ (agAt out (out.length - 1)).fr = flr a.fr k then
      if (join (agAt out (out.length - 1)) (a.at_ k)).2 = 0 then downOn k (out.set (out.length - 1) (join (agAt out (out.length - 1)) (a.at_ k)).1) r
      else ([], (join (agAt out (out.length - 1)) (a.at_ k)).2)
    else downOn k (out ++ [a.at_ k]) r
def down (l : List Ag) (k : Int) : List Ag × Int := if coarse k ∧ Align l (k - 1) then downOn k [] l else ([], 1)

theorem coarse_wid {k : Int} (h : coarse k) : 5 ≤ wid k ∧ wid k ≤ 1440 := by
  unfold coarse at h
  unfold wid
  rw [if_neg (by omega)]
  split
  · omega
  split
  · omega
  split
  · omega
  · omega
theorem flr_le {t k : Int} (hk : coarse k) (ht : Ag.begin_ t) : 0 ≤ flr t k ∧ flr t k ≤ t ∧ t < flr t k + wid k := by
  have hw := coarse_wid hk
  rw [flr_some (by omega) ht]
  unfold Ag.begin_ at ht
  have h1 := Int.emod_nonneg t (show wid k ≠ 0 by omega)
  have h2 := Int.emod_lt_of_pos t (show 0 < wid k by omega)
  have h3 := emod_le (m := wid k) ht.1 (by omega)
  omega
theorem flr_begin {t k : Int} (hk : coarse k) (ht : Ag.begin_ t) : Ag.begin_ (flr t k) := by
  have := flr_le hk ht
  unfold Ag.begin_ at *
  omega
theorem rise_tail {s : Int × Int} {r : List (Int × Int)} (h : Rise (s :: r)) : Rise r := fun i hi => by
  have h1 := h (i + 1) (by simpa using hi)
  refine ⟨h1.1, fun h0 => ?_⟩
  have h2 := h1.2 (by omega)
  obtain ⟨j, rfl⟩ : ∃ j, i = j + 1 := ⟨i - 1, by omega⟩
  exact h2
theorem rise_drop : ∀ (c : Nat) {r : List (Int × Int)}, Rise r → Rise (r.drop c)
  | 0, _, h => h
  | _ + 1, [], h => h
  | c + 1, _ :: _, h => rise_drop c (rise_tail h)
theorem rise_head {s : Int × Int} {r : List (Int × Int)} (h : Rise (s :: r)) : Ag.begin_ s.1 := (h 0 (by simp)).1
theorem at_may {a : Ag} {k : Int} (hk : coarse k) (h : a.may) : (a.at_ k).may := ⟨flr_begin hk h.1, h.2⟩
theorem at_ok {a : Ag} {k : Int} (h : a.ok) : (a.at_ k).ok := by
  have hb := flr_bounds a.fr k
  exact ⟨by show In64 (flr a.fr k); unfold In64; omega, h.2⟩
end Go.Proofs.YtfojciolhokejaaDoor
namespace Go.Proofs.YtfojciolhokejaaDoor

/-- The windows of the samples, nothing beyond 64 bits. -/
def wins (k : Int) : List (Int × Int) → List Ag
  | [] => []
  | s :: r => Ag.of (flr s.1 k) (s.2 :: (r.take (cnt (flr s.1 k + wid k) r)).map (·.2)) :: wins k (r.drop (cnt (flr s.1 k + wid k) r))
termination_by l => l.length
decreasing_by
  simp only [List.length_drop, List.length_cons]
  omega
theorem wins_cons (k : Int) (s : Int × Int) (r : List (Int × Int)) {c : Nat} (hc : cnt (flr s.1 k + wid k) r = c) : wins k (s :: r) = Ag.of (flr s.1 k) (s.2 :: (r.take c).map (·.2)) :: wins k (r.drop c) := by
  rw [wins, hc]

def SmallL (l : List (Int × Int)) : Prop := ∀ s ∈ l, -1000000000 < s.2 ∧ s.2 < 1000000000
theorem cnt_take {e : Int} : ∀ {r : List (Int × Int)}, ∀ s ∈ r.take (cnt e r), s.1 < e
  | [], s, h => by simp at h
  | x :: r, s, h => by
    unfold cnt at h
    split at h
    · next hx =>
      rw [List.take_succ_cons, List.mem_cons] at h
      rcases h with rfl | h
      · exact hx
      · exact cnt_take s h
    · simp at h
theorem cnt_drop {e : Int} : ∀ {r : List (Int × Int)} {s : Int × Int} {r' : List (Int × Int)}, r.drop (cnt e r) = s :: r' → ¬ s.1 < e
  | [], s, r', h => by simp at h
  | x :: r, s, r', h => by
    unfold cnt at h
    split at h
    · rw [List.drop_succ_cons] at h
      exact cnt_drop h
    · next hx =>
      rw [List.drop_zero] at h
      injection h with h1 h2
      subst h1
      exact hx
theorem rise_lt : ∀ {r : List (Int × Int)} {s : Int × Int}, Rise (s :: r) → ∀ x ∈ r, s.1 < x.1 ∧ Ag.begin_ x.1
  | [], s, _, x, hx => by simp at hx
  | y :: r, s, h, x, hx => by
    have h1 : s.1 < y.1 := (h 1 (by simp)).2 (by omega)
    rw [List.mem_cons] at hx
    rcases hx with rfl | hx
    · exact ⟨h1, rise_head (rise_tail h)⟩
    · have h2 := rise_lt (rise_tail h) x hx
      exact ⟨by omega, h2.2⟩
theorem coarse_cases {k : Int} (h : coarse k) : k = 1 ∧ wid k = 5 ∨ k = 2 ∧ wid k = 60 ∨ k = 3 ∧ wid k = 1440 := by
  unfold coarse at h
  rcases (show k = 1 ∨ k = 2 ∨ k = 3 by omega) with rfl | rfl | rfl
  · exact .inl ⟨rfl, by decide⟩
  · exact .inr (.inl ⟨rfl, by decide⟩)
  · exact .inr (.inr ⟨rfl, by decide⟩)
theorem flr_same {s t k : Int} (hk : coarse k) (hs : Ag.begin_ s) (ht : Ag.begin_ t) (h1 : s ≤ t) (h2 : t < flr s k + wid k) : flr t k = flr s k := by
  have hw := coarse_wid hk
  rw [flr_some (by omega) hs] at h2 ⊢
  rw [flr_some (by omega) ht]
  rcases coarse_cases hk with ⟨_, e⟩ | ⟨_, e⟩ | ⟨_, e⟩ <;> rw [e] at h2 ⊢ <;> omega
theorem flr_above {s t k : Int} (hk : coarse k) (hs : Ag.begin_ s) (ht : Ag.begin_ t) (h2 : ¬ t < flr s k + wid k) : flr s k < flr t k := by
  have hw := coarse_wid hk
  rw [flr_some (by omega) hs] at h2 ⊢
  rw [flr_some (by omega) ht]
  rcases coarse_cases hk with ⟨_, e⟩ | ⟨_, e⟩ | ⟨_, e⟩ <;> rw [e] at h2 ⊢ <;> omega
theorem flr_own {s k : Int} (hk : coarse k) (hs : Ag.begin_ s) : flr (flr s k) k = flr s k := by
  have hw := coarse_wid hk
  rw [flr_some (by omega) (flr_begin hk hs), flr_some (by omega) hs]
  rcases coarse_cases hk with ⟨_, e⟩ | ⟨_, e⟩ | ⟨_, e⟩ <;> rw [e] <;> omega
theorem flr_nest {s k : Int} (hk : coarse k) (hk1 : coarse (k - 1)) (hs : Ag.begin_ s) : flr (flr s (k - 1)) k = flr s k := by
  have hw := coarse_wid hk
  have hw1 := coarse_wid hk1
  rw [flr_some (by omega) (flr_begin hk1 hs), flr_some (k := k) (by omega) hs, flr_some (k := k - 1) (by omega) hs]
  unfold coarse at hk1
  rcases coarse_cases hk with ⟨h, e⟩ | ⟨h, e⟩ | ⟨h, e⟩
  · omega
  · subst h
    rw [show wid (2 - 1) = 5 by decide, show wid 2 = 60 by decide]
    omega
  · subst h
    rw [show wid (3 - 1) = 60 by decide, show wid 3 = 1440 by decide]
    omega

theorem both_assoc (a b c : Ag) : (a.both b).both c = a.both (b.both c) := by
  unfold Ag.both
  simp only [Ag.mk.injEq, true_and, and_true]
  exact ⟨Int.add_assoc _ _ _, Int.add_assoc _ _ _, Int.min_assoc _ _ _, Int.max_assoc _ _ _⟩

/-- One window more, or joined to the last. -/
def put (F : Int) (out : List Ag) (a : Ag) : List Ag :=
  if 0 < out.length ∧ (agAt out (out.length - 1)).fr = F then out.set (out.length - 1) ((agAt out (out.length - 1)).both a) else out ++ [a]
theorem put_put {F : Int} {out : List Ag} {a : Ag} (ha : a.fr = F) (b : Ag) : put F (put F out a) b = put F out (a.both b) := by
  unfold put
  by_cases h : 0 < out.length ∧ (agAt out (out.length - 1)).fr = F
  · have e : agAt (out.set (out.length - 1) ((agAt out (out.length - 1)).both a)) (out.length - 1) = (agAt out (out.length - 1)).both a := by
      unfold agAt
      simp [List.getD_eq_getElem?_getD, show out.length - 1 < out.length by omega]
    rw [if_pos h, if_pos h, List.length_set, e, if_pos ⟨h.1, h.2⟩, List.set_set, both_assoc]
  · have e : agAt (out ++ [a]) ((out ++ [a]).length - 1) = a := by
      unfold agAt
      simp [List.getD_eq_getElem?_getD]
    rw [if_neg h, if_neg h, e, if_pos ⟨by simp, ha⟩]
    simp
theorem put_new {F : Int} {out : List Ag} {a : Ag} (h : ¬ (0 < out.length ∧ (agAt out (out.length - 1)).fr = F)) : put F out a = out ++ [a] := if_neg h

def foldS (k : Int) (out : List Ag) : List (Int × Int) → List Ag
  | [] => out
  | s :: r => foldS k (put (flr s.1 k) out (Ag.one s.2 (flr s.1 k))) r
theorem foldS_append (k : Int) : ∀ (x : List (Int × Int)) (out : List Ag) (y : List (Int × Int)), foldS k out (x ++ y) = foldS k (foldS k out x) y
  | [], _, _ => rfl
  | _ :: x, _, y => foldS_append k x _ y
theorem foldS_same (k F : Int) (out : List Ag) : ∀ (r : List (Int × Int)) (a : Ag), a.fr = F → (∀ s ∈ r, flr s.1 k = F) → foldS k (put F out a) r = put F out (a.with (r.map (·.2)))
  | [], a, _, _ => by rw [List.map_nil, with_nil]; rfl
  | s :: r, a, ha, h => by
    have hs := h s (by simp)
    show foldS k (put (flr s.1 k) (put F out a) (Ag.one s.2 (flr s.1 k))) r = _
    rw [hs, put_put ha, foldS_same k F out r (a.both (Ag.one s.2 F)) ha (fun x hx => h x (by simp [hx])), with_cons]
    rfl
theorem foldS_window {k : Int} {s : Int × Int} {r : List (Int × Int)} (out : List Ag) (hk : coarse k) (hr : Rise (s :: r)) {c : Nat} (hc : cnt (flr s.1 k + wid k) r = c) :
    foldS k out (s :: r) = foldS k (put (flr s.1 k) out (Ag.of (flr s.1 k) (s.2 :: (r.take c).map (·.2)))) (r.drop c) := by
  have e : s :: r = (s :: r.take c) ++ r.drop c := by rw [List.cons_append, List.take_append_drop]
  have h := foldS_same k (flr s.1 k) out (r.take c) (Ag.one s.2 (flr s.1 k)) rfl (fun x hx => by
    have hx1 := rise_lt hr x (List.mem_of_mem_take hx)
    rw [← hc] at hx
    exact flr_same hk (rise_head hr) hx1.2 (by omega) (cnt_take x hx))
  rw [e, foldS_append]
  show foldS k (foldS k (put (flr s.1 k) out (Ag.one s.2 (flr s.1 k))) (r.take c)) (r.drop c) = _
  rw [h]
  rfl

theorem agAt_snoc (out : List Ag) (a : Ag) : agAt (out ++ [a]) ((out ++ [a]).length - 1) = a := by
  unfold agAt
  simp [List.getD_eq_getElem?_getD]
theorem of_fr (f v : Int) (r : List Int) : (Ag.of f (v :: r)).fr = f := rfl
/-- What lies behind a window lies in a later one. -/
theorem head_above {k : Int} {s : Int × Int} {r : List (Int × Int)} (hk : coarse k) (hr : Rise (s :: r)) {c : Nat} (hc : cnt (flr s.1 k + wid k) r = c) {x : Int × Int} {r' : List (Int × Int)} (h : r.drop c = x :: r') : flr s.1 k < flr x.1 k := by
  have hx := rise_lt hr x (List.mem_of_mem_drop (by rw [h]; simp))
  rw [← hc] at h
  exact flr_above hk (rise_head hr) hx.2 (cnt_drop h)

theorem foldS_wins {k : Int} (hk : coarse k) : ∀ (n : Nat) (l : List (Int × Int)) (out : List Ag), l.length ≤ n → Rise l → (∀ s r, l = s :: r → ¬ (0 < out.length ∧ (agAt out (out.length - 1)).fr = flr s.1 k)) → foldS k out l = out ++ wins k l
  | _, [], out, _, _, _ => by rw [wins]; simp [foldS]
  | 0, s :: r, _, h, _, _ => absurd h (by simp)
  | n + 1, s :: r, out, hn, hr, hf => by
    rw [foldS_window out hk hr rfl, wins_cons k s r rfl, put_new (hf s r rfl)]
    rw [foldS_wins hk n (r.drop _) _ (by simp at hn ⊢; omega) (rise_drop _ (rise_tail hr)) (fun x r' h hc => by
      have h1 := head_above hk hr rfl h
      rw [agAt_snoc, of_fr] at hc
      omega)]
    simp

/-- An aggregate of few values up to a billion. -/
def Sm (a : Ag) : Prop := a.may ∧ -1000000000 * a.cn ≤ a.sm ∧ a.sm ≤ 1000000000 * a.cn
def cns : List Ag → Int
  | [] => 0
  | a :: r => a.cn + cns r
def sms : List Ag → Int
  | [] => 0
  | a :: r => a.sm + sms r
theorem cns_append (x y : List Ag) : cns (x ++ y) = cns x + cns y := by
  induction x with
  | nil => simp [cns]
  | cons a r ih => simp only [List.cons_append, cns, ih]; omega
theorem sms_append (x y : List Ag) : sms (x ++ y) = sms x + sms y := by
  induction x with
  | nil => simp [sms]
  | cons a r ih => simp only [List.cons_append, sms, ih]; omega
theorem join_small {a b : Ag} (ha : Sm a) (hb : Sm b) (hc : a.cn + b.cn ≤ 1000000) : join a b = (a.both b, 0) ∧ Sm (a.both b) := by
  have h1 : a.cn + b.cn ≤ 1099511627776 := by omega
  have h2 : In64 (a.sm + b.sm) := by
    have := ha.2
    have := hb.2
    have h3 := ha.1.2.1
    have h4 := hb.1.2.1
    unfold Ag.count at h3 h4
    unfold In64
    omega
  refine ⟨?_, both_may ha.1 hb.1 h1, ?_⟩
  · unfold join
    rw [if_pos ⟨ha.1, hb.1, h1⟩, if_pos h2]
  · have := ha.2
    have := hb.2
    unfold Ag.both
    simp only
    omega
theorem sm_cn {a : Ag} (h : Sm a) : 1 ≤ a.cn := h.1.2.1.1
theorem cns_mem : ∀ {l : List Ag}, (∀ a ∈ l, Sm a) → 0 ≤ cns l ∧ ∀ a ∈ l, a.cn ≤ cns l
  | [], _ => ⟨Int.le_refl _, fun a h => by simp at h⟩
  | x :: r, h => by
    have ih := cns_mem (l := r) (fun a ha => h a (by simp [ha]))
    have hx := sm_cn (h x (by simp))
    refine ⟨by show 0 ≤ x.cn + cns r; omega, fun a ha => ?_⟩
    rw [List.mem_cons] at ha
    show a.cn ≤ x.cn + cns r
    rcases ha with rfl | ha
    · omega
    · have := ih.2 a ha
      omega
theorem cns_set : ∀ {l : List Ag} {j : Nat} (b : Ag), j < l.length → cns (l.set j b) = cns l - (agAt l j).cn + b.cn
  | [], j, b, h => absurd h (by simp)
  | x :: r, 0, b, _ => by
    show b.cn + cns r = x.cn + cns r - x.cn + b.cn
    omega
  | x :: r, j + 1, b, h => by
    have := cns_set (l := r) b (show j < r.length by simpa using h)
    show x.cn + cns (r.set j b) = x.cn + cns r - (agAt r j).cn + b.cn
    omega
theorem agAt_mem {l : List Ag} {j : Nat} (h : j < l.length) : agAt l j ∈ l := by
  have e : agAt l j = l[j] := by simp [agAt, h]
  rw [e]; exact List.getElem_mem h
theorem at_sm {a : Ag} {k : Int} (hk : coarse k) (h : Sm a) : Sm (a.at_ k) := ⟨at_may hk h.1, h.2⟩

theorem put_sm {F : Int} {out : List Ag} {a : Ag} (ho : ∀ x ∈ out, Sm x) (ha : Sm a) (hc : cns out + a.cn ≤ 1000000) : (∀ x ∈ put F out a, Sm x) ∧ cns (put F out a) = cns out + a.cn := by
  unfold put
  by_cases h : 0 < out.length ∧ (agAt out (out.length - 1)).fr = F
  · have hm := agAt_mem (l := out) (j := out.length - 1) (by omega)
    have hj := join_small (ho _ hm) ha (by have := (cns_mem ho).2 _ hm; omega)
    rw [if_pos h]
    refine ⟨fun x hx => ?_, ?_⟩
    · rcases List.mem_or_eq_of_mem_set hx with hx | rfl
      · exact ho x hx
      · exact hj.2
    · rw [cns_set _ (by omega)]
      unfold Ag.both
      simp only
      omega
  · rw [if_neg h]
    refine ⟨fun x hx => ?_, by rw [cns_append]; simp [cns]⟩
    rw [List.mem_append, List.mem_singleton] at hx
    rcases hx with hx | rfl
    · exact ho x hx
    · exact ha
/-- Down's step where nothing goes beyond 64 bits. -/
theorem downOn_put {k : Int} {out : List Ag} {a : Ag} {r : List Ag} (hk : coarse k) (ho : ∀ x ∈ out, Sm x) (ha : Sm a) (hc : cns out + a.cn ≤ 1000000) : downOn k out (a :: r) = downOn k (put (flr a.fr k) out (a.at_ k)) r := by
  rw [downOn]
  unfold put
  by_cases h : 0 < out.length ∧ (agAt out (out.length - 1)).fr = flr a.fr k
  · have hm := agAt_mem (l := out) (j := out.length - 1) (by omega)
    have hj := (join_small (ho _ hm) (at_sm hk ha) (by have := (cns_mem ho).2 _ hm; show _ + a.cn ≤ _; omega)).1
    rw [if_pos h, if_pos h, hj, if_pos rfl]
  · rw [if_neg h, if_neg h]
theorem downOn_code {k : Int} (hk : coarse k) : ∀ (l out : List Ag), (∀ x ∈ out, Sm x) → (∀ x ∈ l, Sm x) → cns out + cns l ≤ 1000000 → (downOn k out l).2 = 0
  | [], out, _, _, _ => by rw [downOn]
  | a :: r, out, ho, hl, hc => by
    have ha := hl a (by simp)
    have hr : ∀ x ∈ r, Sm x := fun x hx => hl x (by simp [hx])
    have h0 := (cns_mem hr).1
    have hc' : cns out + (a.cn + cns r) ≤ 1000000 := hc
    have hp := put_sm (F := flr a.fr k) ho (at_sm hk ha) (by show cns out + a.cn ≤ _; omega)
    rw [downOn_put hk ho ha (by omega)]
    refine downOn_code hk r _ hp.1 hr ?_
    have e := hp.2
    rw [e]
    show cns out + a.cn + cns r ≤ _
    omega

theorem of_sm (f : Int) (hf : Ag.begin_ f) : ∀ (v : Int) (r : List Int), (v :: r).length ≤ 1000 → (∀ x ∈ v :: r, -1000000000 < x ∧ x < 1000000000) → Sm (Ag.of f (v :: r)) ∧ (Ag.of f (v :: r)).cn = (v :: r).length ∧ (Ag.of f (v :: r)).sm = sumL (v :: r)
  | v, [], _, hv => by
    have := hv v (by simp)
    refine ⟨⟨?_, ?_⟩, ?_, ?_⟩
    · show ((Ag.one v f).with []).may
      rw [with_nil]; exact one_may hf
    · show -1000000000 * ((1 : Int) + 0) ≤ v + 0 ∧ v + 0 ≤ 1000000000 * ((1 : Int) + 0)
      omega
    · show (1 : Int) + 0 = 1
      omega
    · rfl
  | v, u :: r, hn, hv => by
    have hv0 := hv v (by simp)
    obtain ⟨h1, h2, h3⟩ := of_sm f hf u r (by simp only [List.length_cons] at hn ⊢; omega) (fun x hx => hv x (List.mem_cons_of_mem _ hx))
    have e := of_cons f v (u :: r) (by simp)
    have ho : Sm (Ag.one v f) := ⟨one_may hf, by show -1000000000 * (1 : Int) ≤ v ∧ v ≤ 1000000000 * (1 : Int); omega⟩
    have hl : (u :: r).length ≤ 1000 := by simp only [List.length_cons] at hn ⊢; omega
    have hj := join_small ho h1 (by rw [h2]; show (1 : Int) + _ ≤ _; omega)
    rw [e]
    refine ⟨hj.2, ?_, ?_⟩
    · show (1 : Int) + (Ag.of f (u :: r)).cn = ((u :: r).length + 1 : Nat)
      rw [h2]; omega
    · show v + (Ag.of f (u :: r)).sm = v + sumL (u :: r)
      rw [h3]

/-- What windows of few samples of values up to a billion are. -/
theorem wins_says {k : Int} (hk : coarse k) : ∀ (n : Nat) (l : List (Int × Int)), l.length ≤ n → l.length ≤ 1000 → Rise l → SmallL l →
    (∀ out, rawOn k out l = (out ++ wins k l, 0)) ∧ (∀ a ∈ wins k l, Sm a ∧ a.fr = flr a.fr k) ∧ cns (wins k l) = l.length ∧ sms (wins k l) = sumL (l.map (·.2)) ∧ (wins k l).length ≤ l.length ∧ (0 < l.length → 0 < (wins k l).length)
  | _, [], _, _, _, _ => by
    rw [wins]
    refine ⟨fun out => by rw [rawOn]; simp, fun a h => by simp at h, rfl, rfl, Nat.le_refl _, fun h => h⟩
  | 0, s :: r, h, _, _, _ => absurd h (by simp)
  | n + 1, s :: r, hn, h1000, hr, hs => by
    obtain ⟨c, hc⟩ : ∃ c, cnt (flr s.1 k + wid k) r = c := ⟨_, rfl⟩
    have hcl : c ≤ r.length := by rw [← hc]; exact cnt_le _ _
    simp only [List.length_cons] at hn h1000
    have hfb := flr_begin hk (rise_head hr)
    have hvs : ∀ x ∈ s.2 :: (r.take c).map (·.2), -1000000000 < x ∧ x < 1000000000 := fun x hx => by
      rw [List.mem_cons] at hx
      rcases hx with rfl | hx
      · exact hs s (by simp)
      · obtain ⟨y, hy, rfl⟩ := List.mem_map.1 hx
        exact hs y (by simp [List.mem_of_mem_take hy])
    have hlen : (s.2 :: (r.take c).map (·.2)).length = c + 1 := by simp; omega
    have hof := of_sm (flr s.1 k) hfb s.2 ((r.take c).map (·.2)) (by rw [hlen]; omega) hvs
    have hall := all_small (flr s.1 k) hfb (s.2 :: (r.take c).map (·.2)) (by simp) (by rw [hlen]; omega) hvs
    have ih := wins_says hk n (r.drop c) (by rw [List.length_drop]; omega) (by rw [List.length_drop]; omega) (rise_drop c (rise_tail hr)) (fun x hx => hs x (by simp [List.mem_of_mem_drop hx]))
    rw [wins_cons k s r hc]
    refine ⟨fun out => ?_, fun a ha => ?_, ?_, ?_, ?_, fun _ => by simp⟩
    · rw [rawOn_cons k out s r hc hall, if_pos rfl, ih.1]
      simp
    · rw [List.mem_cons] at ha
      rcases ha with rfl | ha
      · exact ⟨hof.1, by rw [of_fr]; exact (flr_own hk (rise_head hr)).symm⟩
      · exact ih.2.1 a ha
    · show (Ag.of _ _).cn + cns (wins k (r.drop c)) = _
      rw [hof.2.1, ih.2.2.1, hlen, List.length_drop, List.length_cons]
      omega
    · show (Ag.of _ _).sm + sms (wins k (r.drop c)) = _
      rw [hof.2.2, ih.2.2.2.1]
      show s.2 + sumL ((r.take c).map (·.2)) + sumL ((r.drop c).map (·.2)) = s.2 + sumL (r.map (·.2))
      have e : r.map (·.2) = (r.take c).map (·.2) ++ (r.drop c).map (·.2) := by rw [← List.map_append, List.take_append_drop]
      rw [e, sumL_append]
      omega
    · have := ih.2.2.2.2.1
      rw [List.length_drop] at this
      simp only [List.length_cons]
      omega
theorem wins_align {k : Int} (hk : coarse k) : ∀ (n : Nat) (l : List (Int × Int)), l.length ≤ n → l.length ≤ 1000 → Rise l → SmallL l → Align (wins k l) k ∧ ∀ s r, l = s :: r → (agAt (wins k l) 0).fr = flr s.1 k
  | _, [], _, _, _, _ => by
    rw [wins]
    exact ⟨⟨hk, fun i hi => absurd hi (by simp)⟩, fun s r h => by cases h⟩
  | 0, s :: r, h, _, _, _ => absurd h (by simp)
  | n + 1, s :: r, hn, h1000, hr, hs => by
    have hsay := (wins_says hk (n + 1) (s :: r) hn h1000 hr hs).2.1
    obtain ⟨c, hc⟩ : ∃ c, cnt (flr s.1 k + wid k) r = c := ⟨_, rfl⟩
    have hcl : c ≤ r.length := by rw [← hc]; exact cnt_le _ _
    simp only [List.length_cons] at hn h1000
    have ih := wins_align hk n (r.drop c) (by rw [List.length_drop]; omega) (by rw [List.length_drop]; omega) (rise_drop c (rise_tail hr)) (fun x hx => hs x (by simp [List.mem_of_mem_drop hx]))
    rw [wins_cons k s r hc] at hsay ⊢
    refine ⟨⟨hk, fun i hi => ?_⟩, fun s' r' h => ?_⟩
    · have hm := hsay _ (agAt_mem hi)
      refine ⟨hm.1.1, hm.2, fun h0 => ?_⟩
      match i, h0 with
      | 1, _ =>
        show (Ag.of (flr s.1 k) (s.2 :: (r.take c).map (·.2))).fr < (agAt (wins k (r.drop c)) 0).fr
        match hd : r.drop c with
        | [] => rw [hd, wins] at hi; simp at hi
        | x :: r' =>
          rw [← hd, ih.2 x r' hd, of_fr]
          exact head_above hk hr hc hd
      | i + 2, _ => exact (ih.1.2 (i + 1) (by simp only [List.length_cons] at hi; omega)).2.2 (by omega)
    · injection h with h1 h2
      subst h1
      rfl
/-- From fine to coarse: by steps, or at once. -/
theorem down_wins {k : Int} (hk : coarse k) (hk1 : coarse (k - 1)) : ∀ (n : Nat) (l : List (Int × Int)) (out : List Ag), l.length ≤ n → Rise l → SmallL l → (∀ x ∈ out, Sm x) → cns out + l.length ≤ 1000 → downOn k out (wins (k - 1) l) = (foldS k out l, 0)
  | _, [], out, _, _, _, _, _ => by rw [wins, downOn]; rfl
  | 0, s :: r, _, h, _, _, _, _ => absurd h (by simp)
  | n + 1, s :: r, out, hn, hr, hs, ho, hc => by
    obtain ⟨c, hcc⟩ : ∃ c, cnt (flr s.1 (k - 1) + wid (k - 1)) r = c := ⟨_, rfl⟩
    have hcl : c ≤ r.length := by rw [← hcc]; exact cnt_le _ _
    have h0 := (cns_mem ho).1
    simp only [List.length_cons] at hn hc
    have hfb := flr_begin hk1 (rise_head hr)
    have hvs : ∀ x ∈ s.2 :: (r.take c).map (·.2), -1000000000 < x ∧ x < 1000000000 := fun x hx => by
      rw [List.mem_cons] at hx
      rcases hx with rfl | hx
      · exact hs s (by simp)
      · obtain ⟨y, hy, rfl⟩ := List.mem_map.1 hx
        exact hs y (by simp [List.mem_of_mem_take hy])
    have hlen : (s.2 :: (r.take c).map (·.2)).length = c + 1 := by simp; omega
    have hof := of_sm (flr s.1 (k - 1)) hfb s.2 ((r.take c).map (·.2)) (by rw [hlen]; omega) hvs
    have hnest := flr_nest hk hk1 (rise_head hr)
    have hat : (Ag.of (flr s.1 (k - 1)) (s.2 :: (r.take c).map (·.2))).at_ k = Ag.of (flr s.1 k) (s.2 :: (r.take c).map (·.2)) := by
      unfold Ag.at_
      rw [of_fr, hnest]
      rfl
    have hcn : cns out + (Ag.of (flr s.1 (k - 1)) (s.2 :: (r.take c).map (·.2))).cn ≤ 1000000 := by rw [hof.2.1, hlen]; omega
    have hp := put_sm (F := flr s.1 k) ho (at_sm hk hof.1) hcn
    rw [wins_cons (k - 1) s r hcc, downOn_put hk ho hof.1 hcn, of_fr, hnest, hat]
    rw [hat] at hp
    rw [down_wins hk hk1 n (r.drop c) _ (by rw [List.length_drop]; omega) (rise_drop c (rise_tail hr)) (fun x hx => hs x (by simp [List.mem_of_mem_drop hx])) hp.1 (by
      have e : (Ag.of (flr s.1 k) (s.2 :: (r.take c).map (·.2))).cn = (c : Int) + 1 := by
        have := hof.2.1
        rw [hlen] at this
        exact this
      rw [hp.2, e, List.length_drop]
      omega)]
    congr 1
    have e : s :: r = (s :: r.take c) ++ r.drop c := by rw [List.cons_append, List.take_append_drop]
    have h := foldS_same k (flr s.1 k) out (r.take c) (Ag.one s.2 (flr s.1 k)) rfl (fun x hx => by
      have hx1 := rise_lt hr x (List.mem_of_mem_take hx)
      rw [← hcc] at hx
      have h2 := flr_same hk1 (rise_head hr) hx1.2 (by omega) (cnt_take x hx)
      have h3 := flr_nest hk hk1 hx1.2
      rw [h2] at h3
      rw [← h3, hnest])
    rw [e, foldS_append]
    show _ = foldS k (foldS k (put (flr s.1 k) out (Ag.one s.2 (flr s.1 k))) (r.take c)) (r.drop c)
    rw [h]
    rfl
end Go.Proofs.YtfojciolhokejaaDoor
