/-
  Samples whose values are brought below a billion, one after the other: the row on the way, the sum on the way.
-/
import Derived.Test.YtoccmklbjabaaaaDoorTSums
import Derived.Test.YtoccmklbjabaaaaDoorTSame
namespace Go.Proofs.YtoccmklbjabaaaaDoor
open Go.RowKit

theorem bils_length (l : List (Int × Int)) : (bils l).length = l.length := by simp [bils]
/-- The row on the way: the first k have their remainders. -/
def mid (l : List (Int × Int)) (k : Nat) : List (Int × Int) := bils (l.take k) ++ l.drop k
theorem mid_zero (l : List (Int × Int)) : mid l 0 = l := by simp [mid, bils]
theorem mid_all (l : List (Int × Int)) : mid l l.length = bils l := by simp [mid]
theorem mid_get (l : List (Int × Int)) (k : Nat) (hk : k < l.length) : (mid l k).getD k (0, 0) = l.getD k (0, 0) := by
  have h1 : (bils (l.take k)).length = k := by rw [bils_length, List.length_take]; omega
  unfold mid
  rw [List.getD_eq_getElem?_getD, List.getD_eq_getElem?_getD, List.getElem?_append_right (by omega), h1, List.getElem?_drop]
  simp
theorem mid_succ (l : List (Int × Int)) (k : Nat) (t v : Int) (hk : k < l.length) (h : l.getD k (0, 0) = (t, v)) : mid l (k + 1) = (mid l k).set k ((mid l k).getD k (0, 0) |>.1, bil v) := by
  rw [mid_get l k hk, h]
  have h1 : (bils (l.take k)).length = k := by rw [bils_length, List.length_take]; omega
  have e : l[k] = (t, v) := by rw [← h]; simp [hk]
  unfold mid
  rw [List.set_append_right _ _ (by omega), h1, Nat.sub_self]
  rw [List.take_succ_eq_append_getElem hk, e, List.drop_eq_getElem_cons hk, e]
  simp [bils]
theorem mid_in (l : List (Int × Int)) (h : In2 l) (k : Nat) : In2 (mid l k) := by
  intro s hs
  rcases List.mem_append.1 hs with hs | hs
  · obtain ⟨s', hs', rfl⟩ := List.mem_map.1 hs
    have := bil_lt s'.2
    exact ⟨(h s' (List.mem_of_mem_take hs')).1, by unfold In64; omega⟩
  · exact h s (List.mem_of_mem_drop hs)
/-- The sum on the way. -/
def sumTo (l : List (Int × Int)) (k : Nat) : Int := sumL (((bils l).map (·.2)).take k)
theorem sumTo_zero (l : List (Int × Int)) : sumTo l 0 = 0 := by simp [sumTo, sumL]
theorem sumTo_succ (l : List (Int × Int)) (k : Nat) (t v : Int) (hk : k < l.length) (h : l.getD k (0, 0) = (t, v)) : sumTo l (k + 1) = sumTo l k + bil v := by
  have hk' : k < ((bils l).map (·.2)).length := by rw [List.length_map, bils_length]; exact hk
  have e : l[k] = (t, v) := by rw [← h]; simp [hk]
  unfold sumTo
  rw [List.take_succ_eq_append_getElem hk', sumL_append]
  simp [sumL, bils, e]
theorem sumTo_bound (l : List (Int × Int)) : ∀ k, k ≤ l.length → -1000000000 * (k : Int) ≤ sumTo l k ∧ sumTo l k ≤ 1000000000 * (k : Int) := by
  intro k
  induction k with
  | zero => intro _; rw [sumTo_zero]; omega
  | succ k ih =>
    intro hk
    have h := ih (by omega)
    rw [sumTo_succ l k (l.getD k (0, 0)).1 (l.getD k (0, 0)).2 (by omega) rfl]
    have hb := bil_lt (l.getD k (0, 0)).2
    omega

theorem tAt_bils (l : List (Int × Int)) (i : Nat) : tAt (bils l) i = tAt l i := by
  unfold tAt bils
  rw [List.getD_eq_getElem?_getD, List.getD_eq_getElem?_getD, List.getElem?_map]
  cases l[i]? <;> rfl
theorem rise_bils {l : List (Int × Int)} (h : Rise l) : Rise (bils l) := fun i hi => by
  have := h i (by rw [← bils_length]; exact hi)
  unfold riseAt at this ⊢
  rw [tAt_bils, tAt_bils]
  exact this
theorem small_bils (l : List (Int × Int)) : SmallL (bils l) := fun s hs => by
  obtain ⟨s', _, rfl⟩ := List.mem_map.1 hs
  exact bil_lt s'.2
theorem sumTo_all (l : List (Int × Int)) : sumTo l l.length = sumL ((bils l).map (·.2)) := by
  unfold sumTo
  rw [List.take_of_length_le (by rw [List.length_map, bils_length]; exact Nat.le_refl _)]
theorem in_bils {l : List (Int × Int)} (h : In2 l) : In2 (bils l) := by
  rw [← mid_all]
  exact mid_in l h _
theorem samps_any {w : World} {base n cap : Nat} {A : Option Addr} {l : List (Int × Int)} (h : w.ownsRow base 28 2 (.slice A n cap) n (sampV l)) (hb : In2 l) : Samps w A l ∧ l.length = n ∧ n ≤ cap ∧ cap ≤ maxLen := by
  have hn : l.length = n := by have := h.1; rw [sampV_length] at this; omega
  rcases h.2 with ⟨e, e0⟩ | ⟨g, cap', cur, e, _⟩
  · injection e with e1 e2 e3
    subst e1 e3
    exact ⟨⟨hb, fun hp => absurd hp (by omega)⟩, hn, by omega, by unfold maxLen; omega⟩
  · injection e with e1 e2 e3
    subst e1 e3
    obtain ⟨h1, h2, h3, h4, _⟩ := Samps.own h hb
    exact ⟨h1, h2, h3, h4⟩
theorem made_form {w : World} {base n : Nat} {v : Value} {xs : List Value} (h : w.ownsRow base 28 2 v n xs) : ∃ A cap, v = .slice A n cap ∧ n ≤ cap ∧ cap ≤ maxLen := by
  rcases h.2 with ⟨e, e0⟩ | ⟨g, cap, cur, e, _, _, h1, h2, _⟩
  · exact ⟨none, 0, by rw [e, e0], by omega, by unfold maxLen; omega⟩
  · exact ⟨_, cap, e, h1, h2⟩
theorem made_some {w : World} {base n cap : Nat} {A : Option Addr} {xs : List Value} (h : w.ownsRow base 28 2 (.slice A n cap) n xs) (h0 : 0 < n) : ∃ g, A = some ⟨g, 0, none⟩ ∧ base ≤ g := by
  rcases h.2 with ⟨e, e0⟩ | ⟨g, cap', cur, e, hb, _⟩
  · omega
  · injection e with e1
    exact ⟨g, e1, hb⟩
end Go.Proofs.YtoccmklbjabaaaaDoor
