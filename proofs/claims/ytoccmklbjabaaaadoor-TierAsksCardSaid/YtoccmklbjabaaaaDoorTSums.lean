/-
  What Raw and Down say of few samples of values up to a billion; samples of which two have changed places. No program in it but rows of cells.
-/
import Derived.Test.YtoccmklbjabaaaaDoorTSmall
import Derived.Test.YtoccmklbjabaaaaDoorTMake
namespace Go.Proofs.YtoccmklbjabaaaaDoor
open Go.RowKit

theorem raw_wins {k : Int} {l : List (Int × Int)} (hk : coarse k) (hl : l.length ≤ 1000) (hr : Rise l) (hs : SmallL l) : raw l k = (wins k l, 0) := by
  unfold raw
  rw [if_pos ⟨hk, hr⟩, (wins_says hk l.length l (Nat.le_refl _) hl hr hs).1]
  rfl
theorem wins_length {k : Int} {l : List (Int × Int)} (hk : coarse k) (hl : l.length ≤ 1000) (hr : Rise l) (hs : SmallL l) : (wins k l).length ≤ l.length ∧ (0 < l.length → 0 < (wins k l).length) :=
  (wins_says hk l.length l (Nat.le_refl _) hl hr hs).2.2.2.2
theorem down_step {k : Int} {l : List (Int × Int)} (hk : coarse k) (hk1 : coarse (k - 1)) (hl : l.length ≤ 1000) (hr : Rise l) (hs : SmallL l) : down (wins (k - 1) l) k = (wins k l, 0) := by
  unfold down
  rw [if_pos ⟨hk, (wins_align hk1 l.length l (Nat.le_refl _) hl hr hs).1⟩, down_wins hk hk1 l.length l [] (Nat.le_refl _) hr hs (fun x h => by simp at h) (by show (0 : Int) + _ ≤ _; omega),
    foldS_wins hk l.length l [] (Nat.le_refl _) hr (fun _ _ _ h => absurd h.1 (by simp))]
  rfl
/-- What Down says of windows that may not be its own. -/
theorem down_any_wins {k : Int} {l : List (Int × Int)} (hl : l.length ≤ 1000) (hr : Rise l) (hs : SmallL l) (hk : coarse k) : (Align (wins 1 l) (k - 1) → (down (wins 1 l) k).2 = 0) ∧ (¬ Align (wins 1 l) (k - 1) → down (wins 1 l) k = ([], 1)) := by
  have hsay := wins_says (k := 1) (by decide) l.length l (Nat.le_refl _) hl hr hs
  unfold down
  refine ⟨fun h => ?_, fun h => by rw [if_neg (fun h' => h h'.2)]⟩
  rw [if_pos ⟨hk, h⟩]
  refine downOn_code hk _ [] (fun x h => by simp at h) (fun x hx => (hsay.2.1 x hx).1) ?_
  rw [hsay.2.2.1]
  show (0 : Int) + _ ≤ _
  omega

theorem sampV_set2 (l : List (Int × Int)) (t v : Int) : ∀ j, j < l.length → ((sampV l).set (j * 2) (.int .i64 t)).set (j * 2 + 1) (.int .i64 v) = sampV (l.set j (t, v)) := by
  induction l with
  | nil => intro j hj; simp at hj
  | cons s r ih =>
    intro j hj
    have e : sampV (s :: r) = .int .i64 s.1 :: .int .i64 s.2 :: sampV r := rfl
    rw [e]
    match j with
    | 0 => rfl
    | j + 1 =>
      rw [show (j + 1) * 2 + 1 = j * 2 + 1 + 1 + 1 by omega, show (j + 1) * 2 = j * 2 + 1 + 1 by omega]
      simp only [List.set_cons_succ]
      rw [ih j (by simpa using hj)]
      rfl
/-- Two that stood side by side have changed places: the times no longer rise. -/
theorem swap_fall {l : List (Int × Int)} {q : Nat} (hq : q + 1 < l.length) (hr : Rise l) : ¬ Rise ((l.set q (l.getD (q + 1) (0, 0))).set (q + 1) (l.getD q (0, 0))) := fun h => by
  have h1 := (h (q + 1) (by simpa using hq)).2 (by omega)
  have h2 := (hr (q + 1) hq).2 (by omega)
  unfold tAt at h1 h2
  rw [Nat.add_sub_cancel] at h1 h2
  have e1 : ((l.set q (l.getD (q + 1) (0, 0))).set (q + 1) (l.getD q (0, 0))).getD (q + 1) (0, 0) = l.getD q (0, 0) := by
    rw [List.getD_eq_getElem?_getD, List.getElem?_set_self (by simpa using hq)]
    rfl
  have e2 : ((l.set q (l.getD (q + 1) (0, 0))).set (q + 1) (l.getD q (0, 0))).getD q (0, 0) = l.getD (q + 1) (0, 0) := by
    rw [List.getD_eq_getElem?_getD, List.getElem?_set_ne (by omega), List.getElem?_set_self (by omega)]
    rfl
  rw [e1, e2] at h1
  omega
theorem swap_in {l : List (Int × Int)} {q : Nat} (hq : q + 1 < l.length) (h : In2 l) : In2 ((l.set q (l.getD (q + 1) (0, 0))).set (q + 1) (l.getD q (0, 0))) := fun s hs => by
  rcases List.mem_or_eq_of_mem_set hs with hs | rfl
  · rcases List.mem_or_eq_of_mem_set hs with hs | rfl
    · exact h s hs
    · exact h _ (sample_mem hq)
  · exact h _ (sample_mem (by omega))
theorem made_small {w wr : World} {l1 : List Int} {k : Nat} {T : Int} {L : List (Int × Int)} {v : Value} (h : MadeInv w wr l1 0 k T L v) (hk : k ≤ 60) : SmallL L := fun s hs => by
  obtain ⟨j, hj, rfl⟩ := List.getElem_of_mem hs
  have e : L.getD j (0, 0) = L[j] := by simp [hj]
  have hv := h.vals j (by rw [← h.len]; exact hj)
  rw [if_neg (by omega), e] at hv
  rw [hv]
  have := h.len
  omega
end Go.Proofs.YtoccmklbjabaaaaDoor
