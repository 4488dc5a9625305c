/-
  The walk of FoldThrees: it returns true, and writes nothing that was there.
-/
import Derived.Test.YtoohokflendibaaArgs
namespace Go.Proofs.Ytoohokflendibaa
open Go.RowKit

theorem Holds.new (w : World) (a : Ag) : Holds (w.alloc (.cells #[.int .i64 a.fr, .int .i64 a.cn, .int .i64 a.sm, .int .i64 a.mn, .int .i64 a.mx, .int .i64 a.fi, .int .i64 a.la] 26)) w.heap.size a := by
  unfold Holds
  simp
theorem Holds.past {w : World} {g : Nat} {a : Ag} (h : Holds w g a) (o : Obj) : Holds (w.alloc o) g a := h.below ((Below.refl _ _).alloc (Nat.le_refl _) _)
theorem Holds.lt {w : World} {g : Nat} {a : Ag} (h : Holds w g a) : g < w.heap.size := World.block_lt_of_cell? w _ h.1

namespace foldThrees
def boxes (w : World) (a b c : Ag) : World :=
  ((w.alloc (.cells #[.int .i64 a.fr, .int .i64 a.cn, .int .i64 a.sm, .int .i64 a.mn, .int .i64 a.mx, .int .i64 a.fi, .int .i64 a.la] 26)).alloc
    (.cells #[.int .i64 b.fr, .int .i64 b.cn, .int .i64 b.sm, .int .i64 b.mn, .int .i64 b.mx, .int .i64 b.fi, .int .i64 b.la] 26)).alloc
    (.cells #[.int .i64 c.fr, .int .i64 c.cn, .int .i64 c.sm, .int .i64 c.mn, .int .i64 c.mx, .int .i64 c.fi, .int .i64 c.la] 26)
theorem boxes_facts (w : World) (a b c : Ag) : Holds (boxes w a b c) w.heap.size a ∧ Holds (boxes w a b c) (w.heap.size + 1) b ∧ Holds (boxes w a b c) (w.heap.size + 1 + 1) c ∧ Below w.heap.size w (boxes w a b c) := by
  unfold boxes
  refine ⟨((Holds.new _ _).past _).past _, ?_, ?_, past_alloc (past_alloc (past_alloc (Below.refl _ _) _) _) _⟩
  · unfold Holds
    simp [go_sem]
  · unfold Holds
    simp [go_sem]

set_option maxRecDepth 100000 in
set_option maxHeartbeats 2000000 in
theorem walk (a b c : Ag) (w : World) (ha : a.ok) (hb : b.ok) (hc : c.ok) :
    Calls Try.prog 6 #[a.val, b.val, c.val] w fun e w' => e = .returned (.bool true) ∧ Below w.heap.size w w' := by
  have hth := @join_threes a b c
  have j1 := fun w => join_any a b w ha hb
  have k1 := join_ok ha hb
  have j3 := fun w => join_any b c w hb hc
  have k3 := join_ok hb hc
  generalize join a b = X at *
  generalize join b c = U at *
  obtain ⟨x, ce⟩ := X
  obtain ⟨u, cg⟩ := U
  simp only at j1 k1 j3 k3 hth
  have j2 := fun w => join_any x c w k1 hc
  have k2 := join_ok k1 hc
  have j4 := fun w => join_any a u w ha k3
  generalize join x c = Y at *
  generalize join a u = V at *
  obtain ⟨y, cf⟩ := Y
  obtain ⟨v, ch⟩ := V
  simp only at j2 k2 j4 hth
  have HTH := Lib.hid hth
  have J1 := Lib.hid j1
  have J2 := Lib.hid j2
  have J3 := Lib.hid j3
  have J4 := Lib.hid j4
  have HY := Lib.hid k2
  have BX := Lib.hid (boxes_facts w a b c)
  unfold Ag.val at J1 J2 J3 J4
  clear hth j1 j2 j3 j4 k1 k2 k3 ha hb hc
  show Calls Try.prog 6 #[.agg #[.int .i64 a.fr, .int .i64 a.cn, .int .i64 a.sm, .int .i64 a.mn, .int .i64 a.mx, .int .i64 a.fi, .int .i64 a.la], .agg #[.int .i64 b.fr, .int .i64 b.cn, .int .i64 b.sm, .int .i64 b.mn, .int .i64 b.mx, .int .i64 b.fi, .int .i64 b.la], .agg #[.int .i64 c.fr, .int .i64 c.cn, .int .i64 c.sm, .int .i64 c.mn, .int .i64 c.mx, .int .i64 c.fi, .int .i64 c.la]] w _
  go_enter Try.func6, Try.ntmps6
  go_wp2_with fail
  refine (J1.out _).mono ?_
  rintro e w2 ⟨rfl, hb2⟩
  change Below (boxes w a b c).heap.size (boxes w a b c) w2 at hb2
  have F2 : Hid (Holds w2 w.heap.size a ∧ Holds w2 (w.heap.size + 1) b ∧ Holds w2 (w.heap.size + 1 + 1) c ∧ Below w.heap.size w w2) := Lib.hid ⟨BX.out.1.below hb2, BX.out.2.1.below hb2, BX.out.2.2.1.below hb2, past BX.out.2.2.2 hb2⟩
  clear hb2 BX
  have N2 := Lib.hid (Holds.new w2 x)
  obtain ⟨c0, c1, c2, c3, c4, c5, c6⟩ := F2.out.2.2.1
  have hlt := F2.out.2.2.1.lt
  go_wp2_with fail
  refine (J2.out _).mono ?_
  rintro e w3 ⟨rfl, hb3⟩
  clear c0 c1 c2 c3 c4 c5 c6 hlt
  have F3 : Hid (Holds w3 w.heap.size a ∧ Holds w3 (w.heap.size + 1) b ∧ Holds w3 (w.heap.size + 1 + 1) c ∧ Below w.heap.size w w3) := Lib.hid ⟨(F2.out.1.past _).below hb3, (F2.out.2.1.past _).below hb3, (F2.out.2.2.1.past _).below hb3, past (past_alloc F2.out.2.2.2 _) hb3⟩
  clear hb3 F2 N2
  have N3 := Lib.hid (Holds.new w3 y)
  obtain ⟨b0, b1, b2, b3, b4, b5, b6⟩ := F3.out.2.1
  obtain ⟨c0, c1, c2, c3, c4, c5, c6⟩ := F3.out.2.2.1
  have hlt := F3.out.2.1.lt
  have hlt' := F3.out.2.2.1.lt
  go_wp2_with fail
  refine (J3.out _).mono ?_
  rintro e w4 ⟨rfl, hb4⟩
  clear c0 c1 c2 c3 c4 c5 c6 b0 b1 b2 b3 b4 b5 b6 hlt hlt'
  have F4 : Hid (Holds w4 w.heap.size a ∧ Holds w4 w3.heap.size y ∧ Holds w4 (w.heap.size + 1 + 1) c ∧ Below w.heap.size w w4) := Lib.hid ⟨(F3.out.1.past _).below hb4, N3.out.below hb4, (F3.out.2.2.1.past _).below hb4, past (past_alloc F3.out.2.2.2 _) hb4⟩
  clear hb4 F3 N3
  generalize w3.heap.size = gy at *
  have N4 := Lib.hid (Holds.new w4 u)
  obtain ⟨a0, a1, a2, a3, a4, a5, a6⟩ := F4.out.1
  have hlt := F4.out.1.lt
  go_wp2_with fail
  refine (J4.out _).mono ?_
  rintro e w5 ⟨rfl, hb5⟩
  clear a0 a1 a2 a3 a4 a5 a6 hlt
  have F5 : Hid (Holds w5 w.heap.size a ∧ Holds w5 gy y ∧ Holds w5 (w.heap.size + 1 + 1) c ∧ Below w.heap.size w w5) := Lib.hid ⟨(F4.out.1.past _).below hb5, (F4.out.2.1.past _).below hb5, (F4.out.2.2.1.past _).below hb5, past (past_alloc F4.out.2.2.2 _) hb5⟩
  clear hb5 F4 N4 J1 J2 J3 J4
  have N5 := Lib.hid (Holds.new w5 v)
  by_cases he : ce = 0
  case neg =>
    have t : (ce == 0) = false := by simpa using he
    go_wp2_with fail
    refine (told_any _).mono ?_
    rintro e wt ⟨rfl, hbt⟩
    go_wp2
    go_ret
    exact ⟨rfl, past (past_alloc F5.out.2.2.2 _) hbt⟩
  by_cases hf : cf = 0
  case neg =>
    have t : (cf == 0) = false := by simpa using hf
    go_wp2_with fail
    refine (told_any _).mono ?_
    rintro e wt ⟨rfl, hbt⟩
    go_wp2
    go_ret
    exact ⟨rfl, past (past_alloc F5.out.2.2.2 _) hbt⟩
  by_cases hg : cg = 0
  case neg =>
    have t : (cg == 0) = false := by simpa using hg
    go_wp2_with fail
    refine (told_any _).mono ?_
    rintro e wt ⟨rfl, hbt⟩
    go_wp2
    go_ret
    exact ⟨rfl, past (past_alloc F5.out.2.2.2 _) hbt⟩
  by_cases hh : ch = 0
  case neg =>
    have t : (ch == 0) = false := by simpa using hh
    go_wp2_with fail
    refine (told_any _).mono ?_
    rintro e wt ⟨rfl, hbt⟩
    go_wp2
    go_ret
    exact ⟨rfl, past (past_alloc F5.out.2.2.2 _) hbt⟩
  obtain ⟨hyv, hmay, y1, y2, y3⟩ := HTH.out he hf hg hh
  subst he hf hg hh
  subst hyv
  have m := fun w => may_any y w HY.out
  rw [decide_eq_true hmay] at m
  clear hmay
  obtain ⟨yf, yc, ys, yn, yx, yi, yl⟩ := y
  simp only at y1 y2 y3
  subst y1 y2 y3
  have M := Lib.hid m
  unfold Ag.val at M
  clear m HTH HY
  go_wp2_with fail
  refine (told_any _).mono ?_
  rintro e wt ⟨rfl, hbt⟩
  have F6 : Hid (Holds wt w.heap.size a ∧ Holds wt gy ⟨a.fr, yc, ys, yn, yx, a.fi, c.la⟩ ∧ Holds wt (w.heap.size + 1 + 1) c ∧ Below w.heap.size w wt ∧ Holds wt w5.heap.size ⟨a.fr, yc, ys, yn, yx, a.fi, c.la⟩) := Lib.hid ⟨(F5.out.1.past _).below hbt, (F5.out.2.1.past _).below hbt, (F5.out.2.2.1.past _).below hbt, past (past_alloc F5.out.2.2.2 _) hbt, N5.out.below hbt⟩
  clear hbt F5 N5
  generalize w5.heap.size = gv at *
  obtain ⟨c0, c1, c2, c3, c4, c5, c6⟩ := F6.out.2.1
  obtain ⟨v0, v1, v2, v3, v4, v5, v6⟩ := F6.out.2.2.2.2
  simp only at c0 c1 c2 c3 c4 c5 c6 v0 v1 v2 v3 v4 v5 v6
  go_wp2_with fail
  refine (M.out _).mono ?_
  rintro e wu ⟨rfl, hbu⟩
  clear c0 c1 c2 c3 c4 c5 c6 v0 v1 v2 v3 v4 v5 v6
  obtain ⟨c0, c1, c2, c3, c4, c5, c6⟩ := F6.out.2.1.below hbu
  obtain ⟨a0, a1, a2, a3, a4, a5, a6⟩ := F6.out.1.below hbu
  obtain ⟨v0, v1, v2, v3, v4, v5, v6⟩ := F6.out.2.2.1.below hbu
  simp only at c0 c1 c2 c3 c4 c5 c6
  have HU := Lib.hid (past F6.out.2.2.2.1 hbu)
  clear hbu
  go_wp2
  go_ret
  exact ⟨rfl, HU.out⟩
end foldThrees
end Go.Proofs.Ytoohokflendibaa
