/-
  May and Join: what each returns at every argument; nothing that was there is written.
-/
import Derived.Test.YtfojciolhokejaaDoorLeaf
namespace Go.Proofs.YtfojciolhokejaaDoor
open Go.RowKit

/-- The variable at block g holds the aggregate a. -/
def Holds (w : World) (g : Nat) (a : Ag) : Prop :=
  w.cell? ⟨g, 0, none⟩ = some (.int .i64 a.fr) ∧ w.cell? ⟨g, 1, none⟩ = some (.int .i64 a.cn) ∧ w.cell? ⟨g, 2, none⟩ = some (.int .i64 a.sm) ∧ w.cell? ⟨g, 3, none⟩ = some (.int .i64 a.mn) ∧
  w.cell? ⟨g, 4, none⟩ = some (.int .i64 a.mx) ∧ w.cell? ⟨g, 5, none⟩ = some (.int .i64 a.fi) ∧ w.cell? ⟨g, 6, none⟩ = some (.int .i64 a.la)
theorem Holds.below {w w' : World} {g : Nat} {a : Ag} (h : Holds w g a) (hb : Below w.heap.size w w') : Holds w' g a := by
  obtain ⟨h0, h1, h2, h3, h4, h5, h6⟩ := h
  have hl : g < w.heap.size := World.block_lt_of_cell? w _ h0
  refine ⟨?_, ?_, ?_, ?_, ?_, ?_, ?_⟩ <;> (rw [hb.cell hl]; assumption)

theorem box_below {w w2 : World} {o : Obj} (h : Below (w.alloc o).heap.size (w.alloc o) w2) : Below w.heap.size w w2 := by
  have h0 : Below w.heap.size w (w.alloc o) := (Below.refl _ _).alloc (Nat.le_refl _) _
  exact h0.trans (h.mono h0.size)

set_option maxRecDepth 100000 in
set_option maxHeartbeats 1000000 in
theorem may_any (a : Ag) (w : World) (ha : a.ok) : Calls Tryd.prog 49 #[a.val] w fun e w' => e = .returned (.bool (decide a.may)) ∧ Below w.heap.size w w' := by
  obtain ⟨B, hB⟩ : ∃ B, B = decide a.may := ⟨_, rfl⟩
  rw [← hB]
  have MB := Lib.hid hB
  clear hB
  obtain ⟨o1, o2, o3, o4, o5, o6, o7⟩ := ha
  have ho := fun w => hold_any a w ⟨o1, o2, o3, o4, o5, o6, o7⟩
  have al := fun w => alike_any a w ⟨o1, o2, o3, o4, o5, o6, o7⟩
  have hbox : Holds (w.alloc (.cells #[.int .i64 a.fr, .int .i64 a.cn, .int .i64 a.sm, .int .i64 a.mn, .int .i64 a.mx, .int .i64 a.fi, .int .i64 a.la] 70)) w.heap.size a := by
    refine ⟨?_, ?_, ?_, ?_, ?_, ?_, ?_⟩ <;> simp
  have HBOX := Lib.hid hbox
  clear hbox
  have be := fun w => begin_any a.fr w o1
  have co := fun w => count_any a.cn w o2
  by_cases m1 : Ag.begin_ a.fr
  case neg =>
    have MB' : Hid (B = false) := Lib.hid (by rw [MB.out]; exact decide_eq_false (fun h => m1 h.1))
    rw [decide_eq_false m1] at be
    have BE := Lib.hid be
    unfold Ag.val at *
    unfold In64 at *
    clear be co ho al m1 MB HBOX
    go_enter Tryd.func49, Tryd.ntmps49
    go_wp2_with fail
    refine (BE.out _).mono ?_
    rintro e w2 ⟨rfl, rfl⟩
    go_wp2
    go_ret
    exact ⟨ret_bool MB'.out.symm, (Below.refl _ _).alloc (Nat.le_refl _) _⟩
  by_cases m2 : Ag.count a.cn
  case neg =>
    have MB' : Hid (B = false) := Lib.hid (by rw [MB.out]; exact decide_eq_false (fun h => m2 h.2.1))
    rw [decide_eq_true m1] at be
    rw [decide_eq_false m2] at co
    have BE := Lib.hid be
    have CO := Lib.hid co
    unfold Ag.val at *
    unfold In64 at *
    clear be co ho al m1 m2 MB HBOX
    go_enter Tryd.func49, Tryd.ntmps49
    go_wp2_with fail
    refine (BE.out _).mono ?_
    rintro e w2 ⟨rfl, rfl⟩
    go_wp2_with fail
    refine (CO.out _).mono ?_
    rintro e w2 ⟨rfl, rfl⟩
    go_wp2
    go_ret
    exact ⟨ret_bool MB'.out.symm, (Below.refl _ _).alloc (Nat.le_refl _) _⟩
  by_cases m3 : a.hold
  case neg =>
    have MB' : Hid (B = false) := Lib.hid (by rw [MB.out]; exact decide_eq_false (fun h => m3 h.2.2.1))
    rw [decide_eq_true m1] at be
    rw [decide_eq_true m2] at co
    rw [decide_eq_false m3] at ho
    have BE := Lib.hid be
    have CO := Lib.hid co
    have HO := Lib.hid ho
    unfold Ag.val at *
    unfold In64 at *
    clear be co ho al m1 m2 m3 MB HBOX
    go_enter Tryd.func49, Tryd.ntmps49
    go_wp2_with fail
    refine (BE.out _).mono ?_
    rintro e w2 ⟨rfl, rfl⟩
    go_wp2_with fail
    refine (CO.out _).mono ?_
    rintro e w2 ⟨rfl, rfl⟩
    go_wp2_with fail
    refine (HO.out _).mono ?_
    rintro e w2 ⟨rfl, hb⟩
    go_wp2
    go_ret
    exact ⟨ret_bool MB'.out.symm, box_below hb⟩
  rw [decide_eq_true m1] at be
  rw [decide_eq_true m2] at co
  rw [decide_eq_true m3] at ho
  have BE := Lib.hid be
  have CO := Lib.hid co
  have HO := Lib.hid ho
  by_cases m4 : 1 < a.cn
  · have MB' : Hid (B = true) := Lib.hid (by rw [MB.out]; exact decide_eq_true ⟨m1, m2, m3, .inl m4⟩)
    unfold Ag.val at *
    unfold In64 at *
    clear be co ho al m1 m2 m3 MB
    go_enter Tryd.func49, Tryd.ntmps49
    go_wp2_with fail
    refine (BE.out _).mono ?_
    rintro e w2 ⟨rfl, rfl⟩
    go_wp2_with fail
    refine (CO.out _).mono ?_
    rintro e w2 ⟨rfl, rfl⟩
    go_wp2_with fail
    refine (HO.out _).mono ?_
    rintro e w2 ⟨rfl, hb⟩
    have hc := (HBOX.out.below hb).2.1
    go_wp2
    go_ret
    exact ⟨ret_bool MB'.out.symm, box_below hb⟩
  obtain ⟨b, hb⟩ : ∃ b, decide a.alike = b := ⟨_, rfl⟩
  rw [hb] at al
  have AL := Lib.hid al
  have MB' : Hid (B = b) := Lib.hid (by
    rw [MB.out, ← hb, decide_eq_decide]
    exact ⟨fun h => h.2.2.2.resolve_left m4, fun h => ⟨m1, m2, m3, .inr h⟩⟩)
  unfold Ag.val at *
  unfold In64 at *
  clear be co ho al m1 m2 m3 MB hb
  go_enter Tryd.func49, Tryd.ntmps49
  go_wp2_with fail
  refine (BE.out _).mono ?_
  rintro e w2 ⟨rfl, rfl⟩
  go_wp2_with fail
  refine (CO.out _).mono ?_
  rintro e w2 ⟨rfl, rfl⟩
  go_wp2_with fail
  refine (HO.out _).mono ?_
  rintro e w2 ⟨rfl, hb⟩
  obtain ⟨c0, c1, c2, c3, c4, c5, c6⟩ := HBOX.out.below hb
  go_wp2_with fail
  refine (AL.out _).mono ?_
  rintro e w3 ⟨rfl, hb3⟩
  clear c0 c1 c2 c3 c4 c5 c6
  go_wp2
  go_ret
  exact ⟨ret_bool (by rw [MB'.out, decide_eq_false (by omega)]; rfl), (box_below hb).trans (hb3.mono (box_below hb).size)⟩

/-- The variable at block g is not frozen. -/
def Free (w : World) (g : Nat) : Prop :=
  w.frozen? ⟨g, 0, none⟩ = false ∧ w.frozen? ⟨g, 1, none⟩ = false ∧ w.frozen? ⟨g, 2, none⟩ = false ∧ w.frozen? ⟨g, 3, none⟩ = false ∧ w.frozen? ⟨g, 4, none⟩ = false ∧ w.frozen? ⟨g, 5, none⟩ = false ∧ w.frozen? ⟨g, 6, none⟩ = false
theorem Free.below {w w' : World} {g : Nat} (h : Free w g) (hl : g < w.heap.size) (hb : Below w.heap.size w w') : Free w' g := by
  obtain ⟨h0, h1, h2, h3, h4, h5, h6⟩ := h
  refine ⟨?_, ?_, ?_, ?_, ?_, ?_, ?_⟩ <;> (rw [hb.frozen hl]; assumption)
/-- The world in which Join's body begins: both arguments, and the result. -/
def joinW (w : World) (a b : Ag) : World :=
  ((w.alloc (.cells #[.int .i64 a.fr, .int .i64 a.cn, .int .i64 a.sm, .int .i64 a.mn, .int .i64 a.mx, .int .i64 a.fi, .int .i64 a.la] 70)).alloc
    (.cells #[.int .i64 b.fr, .int .i64 b.cn, .int .i64 b.sm, .int .i64 b.mn, .int .i64 b.mx, .int .i64 b.fi, .int .i64 b.la] 70)).alloc
    (.cells #[.int .i64 0, .int .i64 0, .int .i64 0, .int .i64 0, .int .i64 0, .int .i64 0, .int .i64 0] 70)
theorem joinW_facts (w : World) (a b : Ag) : Holds (joinW w a b) w.heap.size a ∧ Holds (joinW w a b) (w.heap.size + 1) b ∧ Holds (joinW w a b) (w.heap.size + 1 + 1) Ag.zero ∧
    Free (joinW w a b) (w.heap.size + 1 + 1) ∧ w.heap.size + 1 + 1 < (joinW w a b).heap.size ∧ Below w.heap.size w (joinW w a b) := by
  unfold joinW Holds Free
  refine ⟨?_, ?_, ?_, ?_, ?_, ?_⟩
  · refine ⟨?_, ?_, ?_, ?_, ?_, ?_, ?_⟩ <;> simp [go_sem]
  · refine ⟨?_, ?_, ?_, ?_, ?_, ?_, ?_⟩ <;> simp [go_sem]
  · unfold Ag.zero
    refine ⟨?_, ?_, ?_, ?_, ?_, ?_, ?_⟩ <;> simp [go_sem]
  · refine ⟨?_, ?_, ?_, ?_, ?_, ?_, ?_⟩ <;> simp [go_sem]
  · simp
  · exact (((Below.refl _ _).alloc (Nat.le_refl _) _).alloc (by simp) _).alloc (by simp; omega) _

end Go.Proofs.YtfojciolhokejaaDoor
