/-
  All: what it returns at every row of samples and every beginning; nothing that was there is written.
-/
import Derived.Test.YtinplchaimejbaaJoin
import Derived.Deep.RegionHeld3
import Derived.Deep.DrawnRows
namespace Go.Proofs.Ytinplchaimejbaa
open Go.RowKit
attribute [local go_sem ↓] Go.wp_at_zero Go.wp_at_succ

/-- The slice at A reads as the samples l. -/
def Samps (w : World) (A : Option Addr) (l : List (Int × Int)) : Prop :=
  (∀ s ∈ l, In64 s.1 ∧ In64 s.2) ∧ (0 < l.length → ∃ b off, A = some ⟨b, off, none⟩ ∧ ∀ j, j < l.length →
    w.cell? ⟨b, off + j * 2, none⟩ = some (.int .i64 (l.getD j (0, 0)).1) ∧ w.cell? ⟨b, off + j * 2 + 1, none⟩ = some (.int .i64 (l.getD j (0, 0)).2))

theorem belowN (w : World) (n : Nat) : Below w.heap.size w (w.drewN n) := ⟨rfl, rfl, rfl, Nat.le_refl _, fun _ _ => rfl⟩
theorem sample_mem {l : List (Int × Int)} {j : Nat} (h : j < l.length) : l.getD j (0, 0) ∈ l := by
  have e : l.getD j (0, 0) = l[j] := by simp [h]
  rw [e]; exact List.getElem_mem h
theorem drop_map {l : List (Int × Int)} {k : Nat} (h : k < l.length) : (l.map (·.2)).drop k = (l.getD k (0, 0)).2 :: (l.map (·.2)).drop (k + 1) := by
  have h' : k < (l.map (·.2)).length := by simpa using h
  rw [List.drop_eq_getElem_cons h']
  congr 1
  simp [h]

theorem all_at {l : List (Int × Int)} {f : Int} (h : 0 < l.length) (hf : Ag.begin_ f) : all f (l.map (·.2)) = goOn f (.one (l.getD 0 (0, 0)).2 f) ((l.map (·.2)).drop (0 + 1)) := by
  match l, h with
  | s :: r, _ => simp [all, hf]
theorem goOn_cons (f : Int) (a : Ag) (v : Int) (r : List Int) {j : Ag × Int} (h : join a (.one v f) = j) : goOn f a (v :: r) = if j.2 = 0 then goOn f j.1 r else j := by
  subst h
  rfl

/-- The two variables that All holds: what was joined so far, what it will return. -/
def AllHolds (w wr : World) (g6 : Nat) (a : Ag) : Prop :=
  Holds wr g6 a ∧ Free wr g6 ∧ g6 < wr.heap.size ∧ w.heap.size < g6 ∧ Holds wr w.heap.size Ag.zero ∧ Free wr w.heap.size ∧ Below w.heap.size w wr
theorem holds_set {wr : World} {g : Nat} {a0 a : Ag} (h : Holds wr g a0) :
    Holds (((((((wr.setCell ⟨g, 0, none⟩ (.int .i64 a.fr)).setCell ⟨g, 1, none⟩ (.int .i64 a.cn)).setCell ⟨g, 2, none⟩ (.int .i64 a.sm)).setCell ⟨g, 3, none⟩ (.int .i64 a.mn)).setCell ⟨g, 4, none⟩ (.int .i64 a.mx)).setCell ⟨g, 5, none⟩ (.int .i64 a.fi)).setCell ⟨g, 6, none⟩ (.int .i64 a.la)) g a := by
  obtain ⟨h0, h1, h2, h3, h4, h5, h6⟩ := h
  unfold Holds
  simp [go_sem, *]
theorem holds_other {wr : World} {g g' : Nat} {a : Ag} (h : Holds wr g a) (hne : g ≠ g') (v0 v1 v2 v3 v4 v5 v6 : Value) :
    Holds (((((((wr.setCell ⟨g', 0, none⟩ v0).setCell ⟨g', 1, none⟩ v1).setCell ⟨g', 2, none⟩ v2).setCell ⟨g', 3, none⟩ v3).setCell ⟨g', 4, none⟩ v4).setCell ⟨g', 5, none⟩ v5).setCell ⟨g', 6, none⟩ v6) g a := by
  obtain ⟨h0, h1, h2, h3, h4, h5, h6⟩ := h
  unfold Holds
  simp [go_sem, *]
theorem free_set {wr : World} {g g' : Nat} (h : Free wr g) (v0 v1 v2 v3 v4 v5 v6 : Value) :
    Free (((((((wr.setCell ⟨g', 0, none⟩ v0).setCell ⟨g', 1, none⟩ v1).setCell ⟨g', 2, none⟩ v2).setCell ⟨g', 3, none⟩ v3).setCell ⟨g', 4, none⟩ v4).setCell ⟨g', 5, none⟩ v5).setCell ⟨g', 6, none⟩ v6) g := by
  unfold Free at *
  simpa using h
theorem below_set {w wr : World} {B g' : Nat} (h : Below B w wr) (hg : B ≤ g') (v0 v1 v2 v3 v4 v5 v6 : Value) :
    Below B w (((((((wr.setCell ⟨g', 0, none⟩ v0).setCell ⟨g', 1, none⟩ v1).setCell ⟨g', 2, none⟩ v2).setCell ⟨g', 3, none⟩ v3).setCell ⟨g', 4, none⟩ v4).setCell ⟨g', 5, none⟩ v5).setCell ⟨g', 6, none⟩ v6) :=
  ((((((h.setCell hg _).setCell hg _).setCell hg _).setCell hg _).setCell hg _).setCell hg _).setCell hg _
theorem AllHolds.set {w wr : World} {g6 : Nat} {a0 : Ag} (a : Ag) (h : AllHolds w wr g6 a0) :
    AllHolds w (((((((wr.setCell ⟨g6, 0, none⟩ (.int .i64 a.fr)).setCell ⟨g6, 1, none⟩ (.int .i64 a.cn)).setCell ⟨g6, 2, none⟩ (.int .i64 a.sm)).setCell ⟨g6, 3, none⟩ (.int .i64 a.mn)).setCell ⟨g6, 4, none⟩ (.int .i64 a.mx)).setCell ⟨g6, 5, none⟩ (.int .i64 a.fi)).setCell ⟨g6, 6, none⟩ (.int .i64 a.la)) g6 a := by
  obtain ⟨h1, h2, h3, h4, h5, h6, h7⟩ := h
  have hb := below_set (Below.refl 0 wr) (Nat.zero_le g6) (.int .i64 a.fr) (.int .i64 a.cn) (.int .i64 a.sm) (.int .i64 a.mn) (.int .i64 a.mx) (.int .i64 a.fi) (.int .i64 a.la)
  exact ⟨holds_set h1, free_set h2 _ _ _ _ _ _ _, Nat.lt_of_lt_of_le h3 hb.size, h4, holds_other h5 (by omega) _ _ _ _ _ _ _, free_set h6 _ _ _ _ _ _ _, below_set h7 (by omega) _ _ _ _ _ _ _⟩
theorem AllHolds.below {w wr w' : World} {g6 : Nat} {a : Ag} (h : AllHolds w wr g6 a) (hb : Below wr.heap.size wr w') : AllHolds w w' g6 a := by
  obtain ⟨h1, h2, h3, h4, h5, h6, h7⟩ := h
  exact ⟨h1.below hb, h2.below h3 hb, Nat.lt_of_lt_of_le h3 hb.size, h4, h5.below hb, h6.below (by omega) hb, h7.trans (hb.mono h7.size)⟩

end Go.Proofs.Ytinplchaimejbaa
