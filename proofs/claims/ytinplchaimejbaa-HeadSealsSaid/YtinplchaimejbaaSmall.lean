/-
  Plain arithmetic of lists of values up to a billion: what they come to; turned round; their bounds. No program in it.
-/
import Derived.Test.YtinplchaimejbaaParts
namespace Go.Proofs.Ytinplchaimejbaa

/-- What a list comes to where nothing goes beyond 64 bits. -/
def Ag.of (f : Int) : List Int → Ag
  | [] => Ag.zero
  | v :: r => (Ag.one v f).with r
theorem all_small (f : Int) (hf : Ag.begin_ f) (l : List Int) (hl : 0 < l.length) (hn : l.length ≤ 1000) (hv : ∀ v ∈ l, -1000000000 < v ∧ v < 1000000000) : all f l = (Ag.of f l, 0) := by
  match l, hl with
  | v :: r, _ =>
    have e : all f (v :: r) = goOn f (.one v f) r := by
      show (if Ag.begin_ f then _ else _) = _
      rw [if_pos hf]
    rw [e]
    have h0 := hv v (by simp)
    simp only [List.length_cons] at hn
    refine goOn_small f hf r _ (one_may hf) ?_ (fun u hu => hv u (by simp [hu])) ?_ ?_
    · show (1 : Int) + _ ≤ _
      omega
    · show -1000000000 * (1 : Int) ≤ v
      omega
    · show v ≤ 1000000000 * (1 : Int)
      omega
theorem of_snoc (f v : Int) (l : List Int) (hl : 0 < l.length) : Ag.of f (l ++ [v]) = (Ag.of f l).both (.one v f) := by
  match l, hl with
  | x :: r, _ =>
    show (Ag.one x f).with (r ++ [v]) = ((Ag.one x f).with r).both (.one v f)
    rw [with_append, ← with_cons _ f, with_nil]
theorem of_cons (f v : Int) (l : List Int) (hl : 0 < l.length) : Ag.of f (v :: l) = (Ag.one v f).both (Ag.of f l) := by
  match l, hl with
  | y :: r, _ =>
    show (Ag.one v f).with (y :: r) = (Ag.one v f).both ((Ag.one y f).with r)
    rw [both_with, with_cons]

def Mirror (a b : Ag) : Prop := a.cn = b.cn ∧ a.sm = b.sm ∧ a.mn = b.mn ∧ a.mx = b.mx ∧ a.fi = b.la ∧ a.la = b.fi
theorem of_mirror (f : Int) (l : List Int) (hl : 0 < l.length) : Mirror (Ag.of f l) (Ag.of f l.reverse) := by
  induction l with
  | nil => simp at hl
  | cons v r ih =>
    rw [List.reverse_cons]
    by_cases hr : 0 < r.length
    · have hm := ih hr
      rw [of_cons f v r hr, of_snoc f v r.reverse (by simpa using hr)]
      generalize Ag.of f r = A at *
      generalize Ag.of f r.reverse = B at *
      unfold Mirror at *
      unfold Ag.both Ag.one
      simp only
      obtain ⟨h1, h2, h3, h4, h5, h6⟩ := hm
      rw [h1, h2, h3, h4, h6]
      exact ⟨Int.add_comm _ _, Int.add_comm _ _, Int.min_comm _ _, Int.max_comm _ _, trivial, rfl⟩
    · obtain rfl : r = [] := List.eq_nil_of_length_eq_zero (by omega)
      exact ⟨rfl, rfl, rfl, rfl, rfl, rfl⟩

theorem minL_le (r : List Int) : ∀ m, minL m r ≤ m ∧ ∀ v ∈ r, minL m r ≤ v := by
  induction r with
  | nil => intro m; exact ⟨Int.le_refl _, by simp⟩
  | cons x r ih =>
    intro m
    have h := ih (min m x)
    simp only [minL]
    refine ⟨by omega, fun v hv => ?_⟩
    rcases List.mem_cons.1 hv with rfl | hv
    · omega
    · exact h.2 v hv
theorem maxL_le (r : List Int) : ∀ m, m ≤ maxL m r ∧ ∀ v ∈ r, v ≤ maxL m r := by
  induction r with
  | nil => intro m; exact ⟨Int.le_refl _, by simp⟩
  | cons x r ih =>
    intro m
    have h := ih (max m x)
    simp only [maxL]
    refine ⟨by omega, fun v hv => ?_⟩
    rcases List.mem_cons.1 hv with rfl | hv
    · omega
    · exact h.2 v hv
theorem minL_mem (r : List Int) : ∀ m, minL m r = m ∨ minL m r ∈ r := by
  induction r with
  | nil => intro m; exact .inl rfl
  | cons x r ih =>
    intro m
    simp only [minL]
    rcases ih (min m x) with h | h
    · rw [h]
      rcases (show min m x = m ∨ min m x = x by omega) with e | e
      · exact .inl e
      · exact .inr (by rw [e]; simp)
    · exact .inr (by simp [h])
theorem maxL_mem (r : List Int) : ∀ m, maxL m r = m ∨ maxL m r ∈ r := by
  induction r with
  | nil => intro m; exact .inl rfl
  | cons x r ih =>
    intro m
    simp only [maxL]
    rcases ih (max m x) with h | h
    · rw [h]
      rcases (show max m x = m ∨ max m x = x by omega) with e | e
      · exact .inl e
      · exact .inr (by rw [e]; simp)
    · exact .inr (by simp [h])
theorem lastL_get (r : List Int) : ∀ m, lastL m r = (m :: r).getD r.length 0 := by
  induction r with
  | nil => intro m; rfl
  | cons x r ih =>
    intro m
    simp only [lastL]
    rw [ih x]
    rfl

/-- What FoldBounds asks of the aggregate. -/
theorem of_bounds (f : Int) (hf : Ag.begin_ f) (l : List Int) (hl : 0 < l.length) (hn : l.length ≤ 1000) :
    (Ag.of f l).may ∧ (Ag.of f l).fr = f ∧ (Ag.of f l).cn = l.length ∧ (Ag.of f l).sm = sumL l ∧ (Ag.of f l).fi = l.getD 0 0 ∧ (Ag.of f l).la = l.getD (l.length - 1) 0 ∧
      (∀ v ∈ l, (Ag.of f l).mn ≤ v ∧ v ≤ (Ag.of f l).mx) ∧ (Ag.of f l).mn ∈ l ∧ (Ag.of f l).mx ∈ l := by
  match l, hl with
  | v :: r, _ =>
    simp only [List.length_cons] at hn
    have h1 := minL_le r v
    have h2 := maxL_le r v
    refine ⟨?_, rfl, ?_, rfl, rfl, ?_, ?_, ?_, ?_⟩
    · have hla : lastL v r = v ∨ lastL v r ∈ r := by
        rw [lastL_get]
        match r with
        | [] => exact .inl rfl
        | x :: r =>
          refine .inr ?_
          show (x :: r).getD r.length 0 ∈ x :: r
          have hx : r.length < (x :: r).length := by simp
          have e : (x :: r).getD r.length 0 = (x :: r)[r.length] := by simp
          rw [e]
          exact List.getElem_mem hx
      have h3 : minL v r ≤ lastL v r := by
        rcases hla with e | e
        · rw [e]; exact h1.1
        · exact h1.2 _ e
      have h4 : lastL v r ≤ maxL v r := by
        rcases hla with e | e
        · rw [e]; exact h2.1
        · exact h2.2 _ e
      refine ⟨hf, ?_, ⟨⟨h1.1, h3, by show minL v r ≤ maxL v r; omega⟩, h2.1, h4⟩, ?_⟩
      · show (1 : Int) ≤ 1 + _ ∧ (1 : Int) + _ ≤ _
        omega
      · match r with
        | [] => right; exact ⟨by show v + 0 = v; omega, rfl, rfl, rfl⟩
        | x :: r =>
          left
          show (1 : Int) < 1 + ((r.length + 1 : Nat) : Int)
          omega
    · show (1 : Int) + _ = _
      simp only [List.length_cons]
      omega
    · show lastL v r = _
      rw [lastL_get]
      rfl
    · intro u hu
      show minL v r ≤ u ∧ u ≤ maxL v r
      rcases List.mem_cons.1 hu with rfl | hu
      · exact ⟨h1.1, h2.1⟩
      · exact ⟨h1.2 u hu, h2.2 u hu⟩
    · show minL v r ∈ v :: r
      rcases minL_mem r v with e | e
      · rw [e]; simp
      · simp [e]
    · show maxL v r ∈ v :: r
      rcases maxL_mem r v with e | e
      · rw [e]; simp
      · simp [e]
end Go.Proofs.Ytinplchaimejbaa
