/-
  Raw: what it returns of every row of at most a thousand samples; nothing that was there is written.
  Raw at every row of at most a thousand samples, at every tier.
  Down: what it returns of every row of at most a thousand windows; nothing that was there is written.
-/
import Derived.Test.YtfojciolhokejaaDoorTRow
namespace Go.Proofs.YtfojciolhokejaaDoor
open Go.RowKit
attribute [local go_sem ↓] Go.wp_at_zero Go.wp_at_succ
set_option linter.unusedVariables false

theorem all_map {f : Int} {s : Int × Int} {r : List (Int × Int)} {c : Nat} {x : Ag × Int} (h : all f (s.2 :: (r.take c).map (·.2)) = x) : all f (((s :: r).take (c + 1)).map (·.2)) = x := by
  rw [List.take_succ_cons, List.map_cons]; exact h
theorem cnt_cons {e : Int} {s : Int × Int} {r : List (Int × Int)} {c : Nat} (h : s.1 < e) (hc : cnt e r = c) : cnt e (s :: r) = c + 1 := by
  show (if s.1 < e then cnt e r + 1 else 0) = c + 1
  rw [if_pos h, hc]

/-- What Raw's loop holds. -/
structure RawInv (w wr : World) (k : Int) (n b off m cap : Nat) (out : List Ag) (r : List (Int × Int)) (v : Value) (R : List Ag × Int) : Prop where
  len : r.length = m
  hcap : m ≤ cap
  hmax : cap ≤ maxLen
  samps : Samps w (some ⟨b, off, none⟩) r
  rise : Rise r
  says : R = rawOn k out r
  room : out.length + m ≤ n
  own : wr.ownsRow w.heap.size 70 7 v out.length (aggV out)
  ok : ∀ a ∈ out, a.ok
  below : Below w.heap.size w wr

end Go.Proofs.YtfojciolhokejaaDoor
namespace Go.Proofs.YtfojciolhokejaaDoor
open Go.RowKit
set_option linter.unusedVariables false

theorem rowOf_nil (w : World) : RowOf w none 0 0 [] := ⟨rfl, ⟨by simp, fun h => absurd h (by simp)⟩, Nat.le_refl _, by unfold maxLen; omega, fun _ => rfl⟩

/-- What a call of Raw or Down leaves: the row, its windows, its code. -/
def Gives (w : World) (R : List Ag × Int) : Ending → World → Prop := fun e w' => ∃ A cap, e = .returned (.tuple #[.slice A R.1.length cap, .int .i64 R.2]) ∧ Below w.heap.size w w' ∧ RowOf w' A R.1.length cap R.1
theorem gives_none {w : World} {c : Int} {e : Ending} {w' : World} (h : e = .returned (.tuple #[.slice none 0 0, .int .i64 c]) ∧ Below w.heap.size w w') : Gives w ([], c) e w' :=
  ⟨none, 0, h.1, h.2, rowOf_nil w'⟩

end Go.Proofs.YtfojciolhokejaaDoor
namespace Go.Proofs.YtfojciolhokejaaDoor
open Go.RowKit
attribute [local go_sem ↓] Go.wp_at_zero Go.wp_at_succ
set_option linter.unusedVariables false

theorem aggV_set (a : Ag) : ∀ (l : List Ag) (j : Nat), j < l.length → ((((((((aggV l).set (j * 7) (.int .i64 a.fr)).set (j * 7 + 1) (.int .i64 a.cn)).set (j * 7 + 2) (.int .i64 a.sm)).set (j * 7 + 3) (.int .i64 a.mn)).set (j * 7 + 4) (.int .i64 a.mx)).set (j * 7 + 5) (.int .i64 a.fi)).set (j * 7 + 6) (.int .i64 a.la)) = aggV (l.set j a)
  | [], j, h => absurd h (by simp)
  | x :: r, 0, _ => by
    rw [List.set_cons_zero, aggV_cons, aggV_cons]
    rfl
  | x :: r, j + 1, h => by
    have ih := aggV_set a r j (by simpa using h)
    rw [List.set_cons_succ, aggV_cons, aggV_cons, ← ih]
    have e : ∀ i, (j + 1) * 7 + i = j * 7 + i + 1 + 1 + 1 + 1 + 1 + 1 + 1 := fun i => by omega
    rw [show (j + 1) * 7 = j * 7 + 1 + 1 + 1 + 1 + 1 + 1 + 1 by omega]
    show ((((((((Value.int .i64 x.fr :: .int .i64 x.cn :: .int .i64 x.sm :: .int .i64 x.mn :: .int .i64 x.mx :: .int .i64 x.fi :: .int .i64 x.la :: aggV r)).set _ _).set _ _).set _ _).set _ _).set _ _).set _ _).set _ _ = _
    rfl

theorem own7_form {w : World} {base n : Nat} {v : Value} {l : List Ag} (h : w.ownsRow base 70 7 v n (aggV l)) (h0 : 0 < n) :
    ∃ g cap, v = .slice (some ⟨g, 0, none⟩) n cap ∧ n ≤ cap ∧ cap ≤ maxLen ∧ base ≤ g ∧ g < w.heap.size ∧ ∀ j, j < n → HoldsAt w g (j * 7) (agAt l j) := by
  have hn : l.length = n := by have := h.1; rw [aggV_length] at this; omega
  rcases h.2 with ⟨e, e0⟩ | ⟨g, cap, cur, rfl, hbg, hh, h1, h2, _⟩
  · omega
  · refine ⟨g, cap, rfl, h1, h2, hbg, ?_, fun j hj => ?_⟩
    · rcases Nat.lt_or_ge g w.heap.size with hlt | hge
      · exact hlt
      · rw [Array.getElem?_eq_none hge] at hh; cases hh
    · have c : ∀ i, i < 7 → w.cell? ⟨g, j * 7 + i, none⟩ = (agAt l j).cells[i]? := fun i hi => by
        rw [h.cellAt (j * 7 + i) (by omega)]
        exact aggV_get l j i (by omega) hi
      exact ⟨c 0 (by decide), c 1 (by decide), c 2 (by decide), c 3 (by decide), c 4 (by decide), c 5 (by decide), c 6 (by decide)⟩
theorem agg_drop {l : List Ag} {j : Nat} (h : j < l.length) : l.drop j = agAt l j :: l.drop (j + 1) := by
  rw [List.drop_eq_getElem_cons h]
  congr 1
  simp [agAt, h]

theorem downOn_new {k : Int} {out : List Ag} {a : Ag} {r : List Ag} (h : ¬ (0 < out.length ∧ (agAt out (out.length - 1)).fr = flr a.fr k)) : downOn k out (a :: r) = downOn k (out ++ [a.at_ k]) r := by rw [downOn, if_neg h]
theorem downOn_join {k : Int} {out : List Ag} {a : Ag} {r : List Ag} {x : Ag × Int} (h : 0 < out.length ∧ (agAt out (out.length - 1)).fr = flr a.fr k) (hx : join (agAt out (out.length - 1)) (a.at_ k) = x) :
    downOn k out (a :: r) = if x.2 = 0 then downOn k (out.set (out.length - 1) x.1) r else ([], x.2) := by rw [downOn, if_pos h, hx]

theorem zero_new (w : World) : Holds (w.alloc (.cells #[.int .i64 0, .int .i64 0, .int .i64 0, .int .i64 0, .int .i64 0, .int .i64 0, .int .i64 0] 70)) w.heap.size Ag.zero ∧ Free (w.alloc (.cells #[.int .i64 0, .int .i64 0, .int .i64 0, .int .i64 0, .int .i64 0, .int .i64 0, .int .i64 0] 70)) w.heap.size ∧
    w.heap.size < (w.alloc (.cells #[.int .i64 0, .int .i64 0, .int .i64 0, .int .i64 0, .int .i64 0, .int .i64 0, .int .i64 0] 70)).heap.size := by
  refine ⟨?_, ?_, by simp⟩
  · unfold Holds Ag.zero
    simp
  · unfold Free
    simp

theorem below_set7 {w wr : World} {B g' o0 o1 o2 o3 o4 o5 o6 : Nat} {v0 v1 v2 v3 v4 v5 v6 : Value} (h : Below B w wr) (hg : B ≤ g') :
    Below B w (((((((wr.setCell ⟨g', o0, none⟩ v0).setCell ⟨g', o1, none⟩ v1).setCell ⟨g', o2, none⟩ v2).setCell ⟨g', o3, none⟩ v3).setCell ⟨g', o4, none⟩ v4).setCell ⟨g', o5, none⟩ v5).setCell ⟨g', o6, none⟩ v6) :=
  ((((((h.setCell hg _).setCell hg _).setCell hg _).setCell hg _).setCell hg _).setCell hg _).setCell hg _

/-- What Down's loop holds. -/
structure DownInv (w wr : World) (k : Int) (j : Nat) (l out : List Ag) (v : Value) (R : List Ag × Int) : Prop where
  says : R = downOn k out (l.drop j)
  room : out.length ≤ j
  own : wr.ownsRow w.heap.size 70 7 v out.length (aggV out)
  ok : ∀ a ∈ out, a.ok
  below : Below w.heap.size w wr

end Go.Proofs.YtfojciolhokejaaDoor
