/-
  Plain arithmetic of what samples come to: when an aggregate may be, what two joined are, what a list comes to. No program in it.
-/
namespace Go.Proofs.Ytinplchaimejbaa

/-- An aggregate: from, count, sum, least, greatest, first, last. -/
structure Ag where
  fr : Int
  cn : Int
  sm : Int
  mn : Int
  mx : Int
  fi : Int
  la : Int

def In64 (a : Int) : Prop := -9223372036854775808 ≤ a ∧ a ≤ 9223372036854775807
instance (a : Int) : Decidable (In64 a) := by unfold In64; infer_instance

def Ag.zero : Ag := ⟨0, 0, 0, 0, 0, 0, 0⟩
def Ag.one (v f : Int) : Ag := ⟨f, 1, v, v, v, v, v⟩
def Ag.ok (a : Ag) : Prop := In64 a.fr ∧ In64 a.cn ∧ In64 a.sm ∧ In64 a.mn ∧ In64 a.mx ∧ In64 a.fi ∧ In64 a.la
def Ag.begin_ (f : Int) : Prop := 0 ≤ f ∧ f ≤ 1099511627776
def Ag.count (n : Int) : Prop := 1 ≤ n ∧ n ≤ 1099511627776
def Ag.hold (a : Ag) : Prop := (a.mn ≤ a.fi ∧ a.mn ≤ a.la ∧ a.mn ≤ a.mx) ∧ a.fi ≤ a.mx ∧ a.la ≤ a.mx
def Ag.alike (a : Ag) : Prop := a.sm = a.mn ∧ a.mn = a.mx ∧ a.mx = a.fi ∧ a.fi = a.la
instance (f : Int) : Decidable (Ag.begin_ f) := by unfold Ag.begin_; infer_instance
instance (f : Int) : Decidable (Ag.count f) := by unfold Ag.count; infer_instance
instance (a : Ag) : Decidable a.hold := by unfold Ag.hold; infer_instance
instance (a : Ag) : Decidable a.alike := by unfold Ag.alike; infer_instance
def Ag.may (a : Ag) : Prop := Ag.begin_ a.fr ∧ Ag.count a.cn ∧ a.hold ∧ (1 < a.cn ∨ a.alike)
instance (a : Ag) : Decidable a.may := by unfold Ag.may; infer_instance

def Ag.both (a b : Ag) : Ag := ⟨a.fr, a.cn + b.cn, a.sm + b.sm, min a.mn b.mn, max a.mx b.mx, a.fi, b.la⟩
/-- What Join says. -/
def join (a b : Ag) : Ag × Int :=
  if a.may ∧ b.may ∧ a.cn + b.cn ≤ 1099511627776 then
    if In64 (a.sm + b.sm) then (a.both b, 0) else (Ag.zero, 3)
  else (Ag.zero, 1)

/-- What All says of values behind what was joined so far. -/
def goOn (f : Int) : Ag → List Int → Ag × Int
  | a, [] => (a, 0)
  | a, v :: r => if (join a (.one v f)).2 = 0 then goOn f (join a (.one v f)).1 r else join a (.one v f)
def all (f : Int) : List Int → Ag × Int
  | [] => (Ag.zero, 1)
  | v :: r => if Ag.begin_ f then goOn f (.one v f) r else (Ag.zero, 1)

theorem one_may {v f : Int} (hf : Ag.begin_ f) : (Ag.one v f).may := by
  unfold Ag.may Ag.count Ag.hold Ag.alike Ag.one
  exact ⟨hf, by simp, by simp, .inr ⟨rfl, rfl, rfl, rfl⟩⟩
theorem one_ok {v f : Int} (hf : Ag.begin_ f) (hv : In64 v) : (Ag.one v f).ok := by
  have h1 : In64 f := by
    unfold Ag.begin_ at hf
    unfold In64
    omega
  exact ⟨h1, by show In64 1; decide, hv, hv, hv, hv, hv⟩
theorem both_may {a b : Ag} (ha : a.may) (hb : b.may) (hc : a.cn + b.cn ≤ 1099511627776) : (a.both b).may := by
  unfold Ag.may Ag.begin_ Ag.count Ag.hold Ag.alike at *
  unfold Ag.both
  simp only
  omega
theorem both_ok {a b : Ag} (ha : a.ok) (hb : b.ok) (ma : a.may) (mb : b.may) (hc : a.cn + b.cn ≤ 1099511627776) (hs : In64 (a.sm + b.sm)) : (a.both b).ok := by
  unfold Ag.may Ag.begin_ Ag.count at ma mb
  unfold Ag.ok In64 at *
  unfold Ag.both
  simp only
  omega
theorem zero_ok : Ag.zero.ok := by unfold Ag.ok Ag.zero In64; simp
theorem join_ok {a b : Ag} (ha : a.ok) (hb : b.ok) : (join a b).1.ok := by
  unfold join
  split
  · next h =>
    split
    · next hs => exact both_ok ha hb h.1 h.2.1 h.2.2 hs
    · exact zero_ok
  · exact zero_ok
theorem join_code (a b : Ag) : (join a b).2 = 0 ∨ (join a b).2 = 1 ∨ (join a b).2 = 3 := by
  unfold join
  split
  · split
    · exact .inl rfl
    · exact .inr (.inr rfl)
  · exact .inr (.inl rfl)
theorem join_zero {a b : Ag} (h : (join a b).2 = 0) : a.may ∧ b.may ∧ a.cn + b.cn ≤ 1099511627776 ∧ In64 (a.sm + b.sm) ∧ (join a b).1 = a.both b := by
  unfold join at h ⊢
  split at h
  · next h1 =>
    split at h
    · next h2 => exact ⟨h1.1, h1.2.1, h1.2.2, h2, by rw [if_pos h1, if_pos h2]⟩
    · simp at h
  · simp at h

/-- Three joined one way and the other. -/
theorem join_threes {a b c : Ag} (e : (join a b).2 = 0) (f : (join (join a b).1 c).2 = 0) (g : (join b c).2 = 0) (h : (join a (join b c).1).2 = 0) :
    (join (join a b).1 c).1 = (join a (join b c).1).1 ∧ (join (join a b).1 c).1.may ∧ (join (join a b).1 c).1.fr = a.fr ∧ (join (join a b).1 c).1.fi = a.fi ∧ (join (join a b).1 c).1.la = c.la := by
  obtain ⟨e1, e2, e3, e4, e5⟩ := join_zero e
  obtain ⟨f1, f2, f3, f4, f5⟩ := join_zero f
  obtain ⟨g1, g2, g3, g4, g5⟩ := join_zero g
  obtain ⟨h1, h2, h3, h4, h5⟩ := join_zero h
  rw [f5, h5]
  refine ⟨?_, both_may f1 f2 f3, ?_⟩
  · rw [e5, g5]
    unfold Ag.both
    simp only [Ag.mk.injEq, true_and, and_true]
    exact ⟨Int.add_assoc _ _ _, Int.add_assoc _ _ _, Int.min_assoc _ _ _, Int.max_assoc _ _ _⟩
  · rw [e5]
    exact ⟨rfl, rfl, rfl⟩

/-- What values come to, gone for by itself. -/
def sumL : List Int → Int
  | [] => 0
  | v :: r => v + sumL r
def minL (m : Int) : List Int → Int
  | [] => m
  | v :: r => minL (min m v) r
def maxL (m : Int) : List Int → Int
  | [] => m
  | v :: r => maxL (max m v) r
def lastL (m : Int) : List Int → Int
  | [] => m
  | v :: r => lastL v r

/-- What All says where nothing goes beyond 64 bits. -/
def Ag.with (a : Ag) (r : List Int) : Ag := ⟨a.fr, a.cn + r.length, a.sm + sumL r, minL a.mn r, maxL a.mx r, a.fi, lastL a.la r⟩
theorem with_nil (a : Ag) : a.with [] = a := by unfold Ag.with sumL minL maxL lastL; simp
theorem with_cons (a : Ag) (f v : Int) (r : List Int) : (a.both (.one v f)).with r = a.with (v :: r) := by
  unfold Ag.with Ag.both Ag.one
  simp only [sumL, minL, maxL, lastL, List.length_cons, Ag.mk.injEq, true_and, and_true]
  omega

theorem goOn_says (f : Int) (hf : Ag.begin_ f) : ∀ (r : List Int) (a : Ag), a.may → a.cn + r.length ≤ 1099511627776 → goOn f a r = (a.with r, 0) ∨ goOn f a r = (Ag.zero, 3)
  | [], a, _, _ => .inl (by rw [with_nil]; rfl)
  | v :: r, a, ha, hc => by
    have hc' : a.cn + (Ag.one v f).cn ≤ 1099511627776 := by
      simp only [List.length_cons] at hc
      unfold Ag.one
      simp only
      omega
    by_cases hs : In64 (a.sm + (Ag.one v f).sm)
    · have hj : join a (.one v f) = (a.both (.one v f), 0) := by
        unfold join
        rw [if_pos ⟨ha, one_may hf, hc'⟩, if_pos hs]
      unfold goOn
      rw [hj]
      simp only [if_pos]
      rw [← with_cons a f v r]
      refine goOn_says f hf r _ (both_may ha (one_may hf) hc') ?_
      simp only [List.length_cons] at hc
      unfold Ag.both Ag.one
      simp only
      omega
    · have hj : join a (.one v f) = (Ag.zero, 3) := by
        unfold join
        rw [if_pos ⟨ha, one_may hf, hc'⟩, if_neg hs]
      unfold goOn
      rw [hj]
      right
      simp

/-- Values up to a billion: nothing goes beyond 64 bits. -/
theorem goOn_small (f : Int) (hf : Ag.begin_ f) : ∀ (r : List Int) (a : Ag), a.may → a.cn + r.length ≤ 1000000 → (∀ v ∈ r, -1000000000 < v ∧ v < 1000000000) →
    -1000000000 * a.cn ≤ a.sm → a.sm ≤ 1000000000 * a.cn → goOn f a r = (a.with r, 0)
  | [], a, _, _, _, _, _ => by rw [with_nil]; rfl
  | v :: r, a, ha, hc, hv, h1, h2 => by
    have hv0 := hv v (by simp)
    simp only [List.length_cons] at hc
    have hc' : a.cn + (Ag.one v f).cn ≤ 1099511627776 := by
      unfold Ag.one
      simp only
      omega
    have hs : In64 (a.sm + (Ag.one v f).sm) := by
      unfold In64 Ag.one
      simp only
      omega
    have hj : join a (.one v f) = (a.both (.one v f), 0) := by
      unfold join
      rw [if_pos ⟨ha, one_may hf, hc'⟩, if_pos hs]
    unfold goOn
    rw [hj]
    simp only [if_pos]
    rw [← with_cons a f v r]
    refine goOn_small f hf r _ (both_may ha (one_may hf) hc') ?_ (fun u hu => hv u (by simp [hu])) ?_ ?_
    all_goals
      unfold Ag.both Ag.one
      simp only
      omega
end Go.Proofs.Ytinplchaimejbaa
