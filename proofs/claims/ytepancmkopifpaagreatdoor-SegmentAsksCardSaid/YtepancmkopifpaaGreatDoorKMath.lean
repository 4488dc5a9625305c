/-
  Plain: samples and windows as the landed readers take them, with sums round 64 bits; they meet what bytes say.
-/
import Derived.Test.YtepancmkopifpaaGreatDoorBMore
namespace Go.Proofs.YtepancmkopifpaaGreatDoor
set_option linter.unusedVariables false

/-- So many samples behind one, round 64 bits. -/
def kOn : Nat → Int → Int → Int → List Nat → Option (List (Int × Int) × List Nat)
  | 0, _, _, _, b => some ([], b)
  | n + 1, t, s, v, b =>
    match rd b with
    | none => none
    | some (a, b) => match rd b with
      | none => none
      | some (c, b) =>
        match kOn n (w64 (t + w64 (s + zag a))) (w64 (s + zag a)) (w64 (v + zag c)) b with
        | none => none
        | some (l, b) => some ((w64 (t + w64 (s + zag a)), w64 (v + zag c)) :: l, b)
/-- The first of them, and the others. -/
def kFirst : Nat → List Nat → Option (List (Int × Int) × List Nat)
  | 0, b => some ([], b)
  | n + 1, b => match rd b with
    | none => none
    | some (a, b) => match rd b with
      | none => none
      | some (c, b) => match kOn n (w64 a) 0 (zag c) b with
        | none => none
        | some (l, b) => some ((w64 a, zag c) :: l, b)
def kAll (b : List Nat) : Option (List (Int × Int) × List Nat) :=
  match rd b with
  | none => none
  | some (n, b) => if 64 < n then none else kFirst n b

theorem k_g : ∀ (n : Nat) (t s v : Int) (b : List Nat) (l : List (Int × Int)) (r : List Nat), 0 ≤ t → t ≤ 1099511627776 → 0 ≤ s → s ≤ 1099511627776 → gOn n t s v b = some (l, r) → kOn n t s v b = some (l, r)
  | 0, t, s, v, b, l, r, _, _, _, _, h => h
  | n + 1, t, s, v, b, l, r, h0, h1, h2, h3, h => by
    simp only [gOn] at h
    simp only [kOn]
    cases e1 : rd b with
    | none => rw [e1] at h; cases h
    | some y1 =>
      obtain ⟨a, b1⟩ := y1
      rw [e1] at h
      simp only at h ⊢
      cases e2 : rd b1 with
      | none => rw [e2] at h; cases h
      | some y2 =>
        obtain ⟨c, b2⟩ := y2
        rw [e2] at h
        simp only at h ⊢
        split at h
        · next hok =>
          have g1 : w64 (s + zag ↑a) = s + zag a := by unfold w64; omega
          have g2 : w64 (t + (s + zag ↑a)) = t + (s + zag a) := by unfold w64; omega
          rw [g1, g2]
          cases e3 : gOn n (t + (s + zag a)) (s + zag a) (w64 (v + zag c)) b2 with
          | none => rw [e3] at h; cases h
          | some y3 =>
            obtain ⟨l', b3⟩ := y3
            rw [k_g n _ _ _ b2 l' b3 (by omega) (by omega) (by omega) (by omega) e3]
            rw [e3] at h
            exact h
        · cases h
theorem rd_lt {b : List Nat} {n : Nat} {r : List Nat} (hb : ∀ c ∈ b, c < 256) (h : rd b = some (n, r)) : n < 18446744073709551616 ∧ ∀ c ∈ r, c < 256 := (rd_only hb h).2
theorem g_k : ∀ (n : Nat) (t s v : Int) (b : List Nat) (l : List (Int × Int)) (r : List Nat), (∀ c ∈ b, c < 256) → 0 ≤ t → t ≤ 1099511627776 → 0 ≤ s → s ≤ 1099511627776 → RiseOn t l → kOn n t s v b = some (l, r) → gOn n t s v b = some (l, r)
  | 0, t, s, v, b, l, r, _, _, _, _, _, _, h => h
  | n + 1, t, s, v, b, l, r, hb, h0, h1, h2, h3, hr, h => by
    simp only [kOn] at h
    simp only [gOn]
    cases e1 : rd b with
    | none => rw [e1] at h; cases h
    | some y1 =>
      obtain ⟨a, b1⟩ := y1
      rw [e1] at h
      simp only at h ⊢
      obtain ⟨ha, hb1⟩ := rd_lt hb e1
      cases e2 : rd b1 with
      | none => rw [e2] at h; cases h
      | some y2 =>
        obtain ⟨c, b2⟩ := y2
        rw [e2] at h
        simp only at h ⊢
        obtain ⟨hc, hb2⟩ := rd_lt hb1 e2
        cases e3 : kOn n (w64 (t + w64 (s + zag a))) (w64 (s + zag a)) (w64 (v + zag c)) b2 with
        | none => rw [e3] at h; cases h
        | some y3 =>
          obtain ⟨l', b3⟩ := y3
          rw [e3] at h
          simp only [Option.some.injEq, Prod.mk.injEq] at h
          obtain ⟨rfl, rfl⟩ := h
          obtain ⟨q1, q2, q3⟩ := hr
          simp only at q1 q2 q3
          have hza := zag_range (a : Int) (by omega) (by omega)
          have g1 : w64 (s + zag ↑a) = s + zag a := by unfold w64 at q1 q2 ⊢; omega
          have g2 : w64 (t + (s + zag ↑a)) = t + (s + zag a) := by rw [g1] at q1 q2; unfold w64 at q1 q2 g1 ⊢; omega
          rw [g1, g2] at q1 q2 q3 e3 ⊢
          rw [if_pos (by omega), g_k n _ _ _ b2 l' b3 hb2 (by omega) (by omega) (by omega) (by omega) q3 e3]
/-- What bytes say, as the landed reader goes for it. -/
theorem kAll_says {b : List Nat} (hb : ∀ c ∈ b, c < 256) : getB b = match kAll b with | some (l, []) => if Rise l then some l else none | _ => none := by
  unfold getB kAll
  cases e0 : rd b with
  | none => rfl
  | some y0 =>
    obtain ⟨n, b0⟩ := y0
    obtain ⟨hn, hb0⟩ := rd_lt hb e0
    simp only
    match n with
    | 0 =>
      have e : (if 64 < 0 then none else kFirst 0 b0) = some (([] : List (Int × Int)), b0) := rfl
      rw [e]
      cases b0 with
      | nil =>
        show (some [] : Option (List (Int × Int))) = if Rise [] then some [] else none
        rw [if_pos (show Rise [] from fun i hi => by simp at hi)]
      | cons x r => rfl
    | n + 1 =>
      simp only
      split
      · rfl
      · simp only [kFirst]
        cases e1 : rd b0 with
        | none => rfl
        | some y1 =>
          obtain ⟨t, b1⟩ := y1
          obtain ⟨ht, hb1⟩ := rd_lt hb0 e1
          simp only
          cases e2 : rd b1 with
          | none => rfl
          | some y2 =>
            obtain ⟨c, b2⟩ := y2
            obtain ⟨hc, hb2⟩ := rd_lt hb1 e2
            simp only
            by_cases htm : 1099511627776 < t
            · rw [if_pos htm]
              have hbig : ¬ (0 ≤ w64 (t : Int) ∧ w64 (t : Int) ≤ 1099511627776) := by unfold w64; omega
              cases e3 : kOn n (w64 t) 0 (zag c) b2 with
              | none => rfl
              | some y3 =>
                obtain ⟨l', b3⟩ := y3
                cases b3 with
                | cons x r => rfl
                | nil =>
                  simp only
                  rw [if_neg (fun h => ?_)]
                  have := (h 0 (by simp)).1
                  exact hbig this
            · rw [if_neg htm]
              have hw : w64 (t : Int) = t := by unfold w64; omega
              rw [hw]
              cases e3 : kOn n (t : Int) 0 (zag c) b2 with
              | none =>
                simp only
                cases e4 : gOn n (t : Int) 0 (zag c) b2 with
                | none => rfl
                | some y4 =>
                  obtain ⟨l4, b4⟩ := y4
                  rw [k_g n _ _ _ b2 l4 b4 (by omega) (by omega) (by omega) (by omega) e4] at e3
                  cases e3
              | some y3 =>
                obtain ⟨l', b3⟩ := y3
                simp only
                by_cases hr : Rise (((t : Int), zag ↑c) :: l')
                · have hr2 := (rise_iff _).1 hr
                  rw [g_k n _ _ _ b2 l' b3 hb2 (by omega) (by omega) (by omega) (by omega) hr2.2.2 e3]
                  cases b3 with
                  | nil => simp only [if_true]; rw [if_pos hr]
                  | cons x r => rfl
                · cases e4 : gOn n (t : Int) 0 (zag c) b2 with
                  | none =>
                    cases b3 with
                    | nil => simp only; rw [if_neg hr]
                    | cons x r => rfl
                  | some y4 =>
                    obtain ⟨l4, b4⟩ := y4
                    have h5 := k_g n _ _ _ b2 l4 b4 (by omega) (by omega) (by omega) (by omega) e4
                    rw [e3] at h5
                    simp only [Option.some.injEq, Prod.mk.injEq] at h5
                    obtain ⟨rfl, rfl⟩ := h5
                    obtain ⟨_, _, f3, _⟩ := s_g n _ _ _ b2 l' b3 hb2 (by omega) (by omega) e4
                    exact absurd ((rise_iff (((t : Int), zag ↑c) :: l')).2 ⟨by omega, by omega, f3⟩) hr

/-- What stands behind a window's place. -/
def kaMore (fr : Int) (b : List Nat) : Option (Ag × List Nat) :=
  match rd b with
  | none => none
  | some (c, b) => match rd b with
    | none => none
    | some (m, b) =>
      if c = 0 then some (⟨fr, 1, zag m, zag m, zag m, zag m, zag m⟩, b) else
      match rd b with
      | none => none
      | some (x, b) => match rd b with
        | none => none
        | some (s, b) => match rd b with
          | none => none
          | some (i, b) => match rd b with
            | none => none
            | some (j, b) => some (⟨fr, w64 ((c : Int) + 1), zag s, zag m, w64 (zag m + x), w64 (zag m + i), w64 (zag m + j)⟩, b)
/-- So many windows from the place p on, round 64 bits. -/
def kaOn (W : Nat) : Nat → Nat → List Nat → Option (List Ag × List Nat)
  | 0, _, b => some ([], b)
  | n + 1, p, b => match rd b with
    | none => none
    | some (f, b) => if 1099511627776 / W < (p + f) % 18446744073709551616 then none else
      match kaMore (((p + f) % 18446744073709551616 * W : Nat) : Int) b with
      | none => none
      | some (a, b) => match kaOn W n ((p + f) % 18446744073709551616 + 1) b with
        | none => none
        | some (l, b) => some (a :: l, b)
def kaAll (W : Nat) (b : List Nat) : Option (List Ag × List Nat) :=
  match rd b with
  | none => none
  | some (n, b) => if 64 < n then none else kaOn W n 0 b

theorem ka_ga {W : Nat} (hW : W = 5 ∨ W = 60 ∨ W = 1440) {p : Nat} {b r : List Nat} {a : Ag} (hb : ∀ c ∈ b, c < 256) (hp : p ≤ 1099511627777) (h : gaOne (W : Int) p b = some (a, r)) :
    ∃ f b1, rd b = some (f, b1) ∧ (p + f) % 18446744073709551616 = p + f ∧ p + f ≤ 1099511627776 / W ∧ kaMore (((p + f) * W : Nat) : Int) b1 = some (a, r) ∧ a.fr / W = ((p + f : Nat) : Int) := by
  unfold gaOne at h
  cases e1 : rd b with
  | none => rw [e1] at h; cases h
  | some y1 =>
  obtain ⟨f, b1⟩ := y1
  rw [e1] at h
  simp only at h
  cases e2 : rd b1 with
  | none => rw [e2] at h; cases h
  | some y2 =>
  obtain ⟨c, b2⟩ := y2
  rw [e2] at h
  simp only at h
  cases e3 : rd b2 with
  | none => rw [e3] at h; cases h
  | some y3 =>
  obtain ⟨m, b3⟩ := y3
  rw [e3] at h
  simp only at h
  split at h
  · cases h
  next hbd =>
  obtain ⟨_, hb1⟩ := rd_lt hb e1
  obtain ⟨_, hb2⟩ := rd_lt hb1 e2
  obtain ⟨hmm, hb3⟩ := rd_lt hb2 e3
  have hzm := zag_range (m : Int) (by omega) (by omega)
  have hpf : p + f ≤ 1099511627776 := by rcases hW with rfl | rfl | rfl <;> omega
  have hq : p + f ≤ 1099511627776 / W ∧ (((p : Int) + f) * W) / W = ((p + f : Nat) : Int) ∧ ((p : Int) + f) * W = (((p + f) * W : Nat) : Int) := by
    rcases hW with rfl | rfl | rfl <;> omega
  have hcast : ((p : Int) + f) * W = (((p + f) * W : Nat) : Int) := hq.2.2
  refine ⟨f, b1, rfl, by omega, hq.1, ?_, ?_⟩
  · unfold kaMore
    rw [e2]
    simp only
    rw [e3]
    simp only
    rw [hcast] at h
    split at h
    · next hc0 => rw [if_pos hc0]; exact h
    · next hc0 =>
      rw [if_neg hc0]
      cases e4 : rd b3 with
      | none => rw [e4] at h; cases h
      | some y4 =>
      obtain ⟨x, b4⟩ := y4
      rw [e4] at h
      simp only at h ⊢
      cases e5 : rd b4 with
      | none => rw [e5] at h; cases h
      | some y5 =>
      obtain ⟨s, b5⟩ := y5
      rw [e5] at h
      simp only at h ⊢
      cases e6 : rd b5 with
      | none => rw [e6] at h; cases h
      | some y6 =>
      obtain ⟨i, b6⟩ := y6
      rw [e6] at h
      simp only at h ⊢
      cases e7 : rd b6 with
      | none => rw [e7] at h; cases h
      | some y7 =>
      obtain ⟨j, b7⟩ := y7
      rw [e7] at h
      simp only at h ⊢
      split at h
      · cases h
      next hlim =>
      rw [w64_id (x := (c : Int) + 1) (by unfold In64; omega), w64_id (x := zag (m : Int) + x) (by unfold In64; omega), w64_id (x := zag (m : Int) + i) (by unfold In64; omega), w64_id (x := zag (m : Int) + j) (by unfold In64; omega)]
      exact h
  · have : a.fr = ((p : Int) + f) * W := by
      split at h
      · simp only [Option.some.injEq, Prod.mk.injEq] at h
        rw [← h.1]
      · split at h
        · cases h
        split at h
        · cases h
        split at h
        · cases h
        split at h
        · cases h
        split at h
        · cases h
        simp only [Option.some.injEq, Prod.mk.injEq] at h
        rw [← h.1]
    rw [this]
    exact hq.2.1
theorem may_nums {fr sm z : Int} {c x i j : Nat} (hm : Ag.may ⟨fr, w64 ((c : Int) + 1), sm, z, w64 (z + x), w64 (z + i), w64 (z + j)⟩) (hz : -9223372036854775808 ≤ z ∧ z ≤ 9223372036854775807) (hc : c < 18446744073709551616) (hx : x < 18446744073709551616) (hi : i < 18446744073709551616) (hj : j < 18446744073709551616) :
    w64 ((c : Int) + 1) = c + 1 ∧ w64 (z + x) = z + x ∧ w64 (z + i) = z + i ∧ w64 (z + j) = z + j ∧ ¬ 1099511627776 < (c : Int) + 1 ∧ ¬ 9223372036854775807 < z + (x : Int) ∧ ¬ x < i ∧ ¬ x < j := by
  unfold Ag.may Ag.begin_ Ag.count Ag.hold Ag.alike at hm
  simp only at hm
  obtain ⟨_, ⟨m1, m2⟩, ⟨⟨m3, m4, m5⟩, m6, m7⟩, _⟩ := hm
  have g1 : w64 ((c : Int) + 1) = (c : Int) + 1 := by clear m3 m4 m5 m6 m7; unfold w64 at m1 m2 ⊢; omega
  have g2 : w64 (z + x) = z + x := by clear m1 m2 m3 m4 m6 m7 g1; unfold w64 at m5 ⊢; omega
  have g3 : w64 (z + i) = z + i := by clear m1 m2 m5 m4 m6 m7 g1 g2; unfold w64 at m3 ⊢; omega
  have g4 : w64 (z + j) = z + j := by clear m1 m2 m3 m5 m6 m7 g1 g2 g3; unfold w64 at m4 ⊢; omega
  have g5 : z + (x : Int) ≤ 9223372036854775807 := by rw [← g2]; exact (w64_in _).2
  rw [g1] at m1 m2
  rw [g2, g3] at m6
  rw [g2, g4] at m7
  exact ⟨g1, g2, g3, g4, by omega, by omega, by omega, by omega⟩
theorem ga_ka {W : Nat} (hW : W = 5 ∨ W = 60 ∨ W = 1440) {p f : Nat} {b b1 r : List Nat} {a : Ag} (hb : ∀ c ∈ b, c < 256) (e1 : rd b = some (f, b1)) (hle : (p + f) % 18446744073709551616 ≤ 1099511627776 / W)
    (h : kaMore (((p + f) % 18446744073709551616 * W : Nat) : Int) b1 = some (a, r)) (hm : a.may) (hq : (p : Int) ≤ a.fr / W) (hp : p ≤ 1099511627777) : gaOne (W : Int) p b = some (a, r) ∧ (p + f) % 18446744073709551616 = p + f ∧ a.fr / W = ((p + f : Nat) : Int) := by
  obtain ⟨hf, hb1⟩ := rd_lt hb e1
  unfold kaMore at h
  cases e2 : rd b1 with
  | none => rw [e2] at h; cases h
  | some y2 =>
  obtain ⟨c, b2⟩ := y2
  rw [e2] at h
  simp only at h
  obtain ⟨hc, hb2⟩ := rd_lt hb1 e2
  cases e3 : rd b2 with
  | none => rw [e3] at h; cases h
  | some y3 =>
  obtain ⟨m, b3⟩ := y3
  rw [e3] at h
  simp only at h
  obtain ⟨hmm, hb3⟩ := rd_lt hb2 e3
  have hzm := zag_range (m : Int) (by omega) (by omega)
  have hplace : ∀ fr : Int, fr = (((p + f) % 18446744073709551616 * W : Nat) : Int) → (p : Int) ≤ fr / W → (p + f) % 18446744073709551616 = p + f ∧ (((p : Int) + f) * W) = fr ∧ ¬ 1099511627776 < ((p : Int) + f) * W ∧ fr / W = ((p + f : Nat) : Int) := by
    intro fr e hq
    rcases hW with rfl | rfl | rfl <;> subst e <;> omega
  unfold gaOne
  rw [e1]
  simp only
  rw [e2]
  simp only
  rw [e3]
  simp only
  by_cases hc0 : c = 0
  · rw [if_pos hc0] at h
    simp only [Option.some.injEq, Prod.mk.injEq] at h
    obtain ⟨rfl, rfl⟩ := h
    obtain ⟨k1, k2, k3, k4⟩ := hplace _ rfl hq
    refine ⟨?_, k1, k4⟩
    rw [k2, if_neg (by rw [k2] at k3; omega), if_pos hc0]
  · rw [if_neg hc0] at h
    cases e4 : rd b3 with
    | none => rw [e4] at h; cases h
    | some y4 =>
    obtain ⟨x, b4⟩ := y4
    rw [e4] at h
    simp only at h ⊢
    obtain ⟨hx, hb4⟩ := rd_lt hb3 e4
    cases e5 : rd b4 with
    | none => rw [e5] at h; cases h
    | some y5 =>
    obtain ⟨s, b5⟩ := y5
    rw [e5] at h
    simp only at h ⊢
    obtain ⟨hs, hb5⟩ := rd_lt hb4 e5
    cases e6 : rd b5 with
    | none => rw [e6] at h; cases h
    | some y6 =>
    obtain ⟨i, b6⟩ := y6
    rw [e6] at h
    simp only at h ⊢
    obtain ⟨hi, hb6⟩ := rd_lt hb5 e6
    cases e7 : rd b6 with
    | none => rw [e7] at h; cases h
    | some y7 =>
    obtain ⟨j, b7⟩ := y7
    rw [e7] at h
    simp only at h ⊢
    obtain ⟨hj, hb7⟩ := rd_lt hb6 e7
    simp only [Option.some.injEq, Prod.mk.injEq] at h
    obtain ⟨rfl, rfl⟩ := h
    obtain ⟨k1, k2, k3, k4⟩ := hplace _ rfl hq
    obtain ⟨g1, g2, g3, g4, g5, g6, g7, g8⟩ := may_nums hm hzm hc hx hi hj
    have k5 : ¬ (1099511627776 < ((p : Int) + f) * W ∨ 1099511627776 < (c : Int) + 1) := fun h => h.elim k3 g5
    have k6 : ¬ (9223372036854775807 < zag (m : Int) + x ∨ x < i ∨ x < j) := fun h => h.elim g6 (fun h => h.elim g7 g8)
    refine ⟨?_, k1, k4⟩
    rw [if_neg k5, if_neg hc0, if_neg k6, g1, g2, g3, g4, k2]
theorem kaOn_of {W : Nat} (hW : W = 5 ∨ W = 60 ∨ W = 1440) : ∀ (n p : Nat) (b : List Nat) (l : List Ag) (r : List Nat), (∀ c ∈ b, c < 256) → p ≤ 1099511627777 → gaOn (W : Int) n p b = some (l, r) → kaOn W n p b = some (l, r)
  | 0, p, b, l, r, _, _, h => h
  | n + 1, p, b, l, r, hb, hp, h => by
    rw [gaOn] at h
    cases e1 : gaOne W p b with
    | none => rw [e1] at h; cases h
    | some y1 =>
    obtain ⟨a, b1⟩ := y1
    rw [e1] at h
    simp only at h
    obtain ⟨f, b0, g1, g2, g3, g4, g5⟩ := ka_ga hW hb hp e1
    obtain ⟨_, _, _, _, _, hb1⟩ := aOne_gaOne (by omega) (by omega) (by omega) hb e1
    cases e2 : gaOn W n (a.fr / W + 1) b1 with
    | none => rw [e2] at h; cases h
    | some y2 =>
    obtain ⟨l', b2⟩ := y2
    rw [e2] at h
    rw [g5] at e2
    have hp2 : p + f + 1 ≤ 1099511627777 := by rcases hW with rfl | rfl | rfl <;> omega
    have ih := kaOn_of hW n (p + f + 1) b1 l' b2 hb1 hp2 (by rw [← e2]; norm_cast)
    rw [kaOn, g1]
    simp only
    rw [g2, if_neg (by omega), g4]
    simp only
    rw [ih]
    exact h
theorem gaOn_of {W : Nat} (hW : W = 5 ∨ W = 60 ∨ W = 1440) : ∀ (n p : Nat) (b : List Nat) (l : List Ag) (r : List Nat), (∀ c ∈ b, c < 256) → p ≤ 1099511627777 → AlOn (W : Int) p l → kaOn W n p b = some (l, r) → gaOn (W : Int) n p b = some (l, r)
  | 0, p, b, l, r, _, _, _, h => h
  | n + 1, p, b, l, r, hb, hp, hal, h => by
    rw [kaOn] at h
    cases e1 : rd b with
    | none => rw [e1] at h; cases h
    | some y1 =>
    obtain ⟨f, b1⟩ := y1
    rw [e1] at h
    simp only at h
    split at h
    · cases h
    next hle =>
    cases e2 : kaMore (((p + f) % 18446744073709551616 * W : Nat) : Int) b1 with
    | none => rw [e2] at h; cases h
    | some y2 =>
    obtain ⟨a, b2⟩ := y2
    rw [e2] at h
    simp only at h
    cases e3 : kaOn W n ((p + f) % 18446744073709551616 + 1) b2 with
    | none => rw [e3] at h; cases h
    | some y3 =>
    obtain ⟨l', b3⟩ := y3
    rw [e3] at h
    simp only [Option.some.injEq, Prod.mk.injEq] at h
    obtain ⟨rfl, rfl⟩ := h
    obtain ⟨a1, a2, a3, a4⟩ := hal
    obtain ⟨g1, g2, g3⟩ := ga_ka hW hb e1 (by omega) e2 a1 a3 hp
    obtain ⟨_, _, _, _, _, hb2⟩ := aOne_gaOne (by omega) (by omega) (by omega) hb g1
    rw [g2] at e3 hle
    have hp2 : p + f + 1 ≤ 1099511627777 := by rcases hW with rfl | rfl | rfl <;> omega
    have e4 : a.fr / W + 1 = ((p + f + 1 : Nat) : Int) := by rw [g3]; norm_cast
    rw [e4] at a4
    have ih := gaOn_of hW n (p + f + 1) b2 l' b3 hb2 hp2 a4 e3
    rw [gaOn, g1]
    simp only
    rw [e4, ih]
/-- What bytes say of windows, as the landed reader goes for it. -/
theorem kaAll_says {k : Int} {b : List Nat} {W : Nat} (hk : coarse k) (hW : wid k = (W : Int)) (hb : ∀ c ∈ b, c < 256) : getA (wid k) b = match kaAll W b with | some (l, []) => if Align l k then some l else none | _ => none := by
  have hal := fun l => align_iff l hk
  have hW3 : W = 5 ∨ W = 60 ∨ W = 1440 := by unfold coarse at hk; unfold wid at hW; split at hW <;> (try split at hW) <;> (try split at hW) <;> omega
  rw [hW] at hal ⊢
  unfold getA kaAll
  cases e0 : rd b with
  | none => rfl
  | some y0 =>
  obtain ⟨n, b0⟩ := y0
  obtain ⟨hn, hb0⟩ := rd_lt hb e0
  simp only
  split
  · rfl
  next hn64 =>
  cases e1 : gaOn W n 0 b0 with
  | some y1 =>
    obtain ⟨l, r⟩ := y1
    have := kaOn_of hW3 n 0 b0 l r hb0 (by omega) e1
    rw [this]
    obtain ⟨_, _, g3, _, _⟩ := a_ga (by omega) (by omega) n 0 b0 l r hb0 (by omega) e1
    cases r with
    | nil =>
      show (if ([] : List Nat) = [] then some l else none) = if Align l k then some l else none
      rw [if_pos rfl, if_pos ((hal l).2 g3)]
    | cons x r => rfl
  | none =>
    simp only
    cases e2 : kaOn W n 0 b0 with
    | none => rfl
    | some y2 =>
      obtain ⟨l, r⟩ := y2
      cases r with
      | cons x r => rfl
      | nil =>
        simp only
        rw [if_neg (fun h => ?_)]
        have := gaOn_of hW3 n 0 b0 l [] hb0 (by omega) ((hal l).1 h) e2
        rw [show ((0 : Nat) : Int) = 0 from rfl, e1] at this
        cases this
end Go.Proofs.YtepancmkopifpaaGreatDoor
