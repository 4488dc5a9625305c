/-
  The landed block's reader of one window: what it returns, where it stands behind it; nothing else that was there is written.
-/
import Derived.Test.YtepancmkopifpaaGreatDoorKPutA
import Derived.Test.YtepancmkopifpaaGreatDoorBAInv
namespace Go.Proofs.YtepancmkopifpaaGreatDoor
open Go.RowKit
attribute [local go_sem ↓] Go.wp_at_zero Go.wp_at_succ
set_option linter.unusedVariables false

/-- What stands behind a window's place, as it is read. -/
def kAg (bs : List Nat) (fr : Int) (p : Nat) (bad : Bool) : Ag × Nat × Bool :=
  let c := numR bs p false
  let m := numR bs c.2.1 false
  if c.1 = 0 then (Ag.one (zag m.1) fr, m.2.1, (bad || c.2.2) || m.2.2) else
  let x := numR bs m.2.1 false
  let s := numR bs x.2.1 false
  let i := numR bs s.2.1 false
  let j := numR bs i.2.1 false
  (⟨fr, w64 ((c.1 : Int) + 1), zag s.1, zag m.1, w64 (zag m.1 + x.1), w64 (zag m.1 + i.1), w64 (zag m.1 + j.1)⟩, j.2.1, (((((bad || c.2.2) || m.2.2) || x.2.2) || s.2.2) || i.2.2) || j.2.2)

/-- Amid the reading of a window: the reader, the result and the window, each apart from the others. -/
structure KAMid (w wr : World) (B gR : Nat) (A : Option Addr) (len cap : Nat) (bs : List Nat) (p : Nat) (bad : Bool) (g4 g7 : Nat) (x : Ag) : Prop where
  pos : RB wr B gR A len cap bs p bad
  grown : w.grownBy wr (some gR)
  low : gR < w.heap.size
  b4 : w.heap.size ≤ g4
  b7 : w.heap.size ≤ g7
  h4 : Holds wr g4 Ag.zero
  f4 : Free wr g4
  h7 : Holds wr g7 x
  f7 : Free wr g7
  ne : g4 ≠ g7
section
variable {w wr w' : World} {B gR : Nat} {A : Option Addr} {len cap : Nat} {bs : List Nat} {p q : Nat} {bad b : Bool} {g4 g7 : Nat} {x y : Ag}
theorem Free.grown {g : Nat} {row : Option Nat} (h : Free w g) (hl : g < w.heap.size) (hg : w.grownBy w' row) (hne : some g ≠ row) : Free w' g := by
  have c := fun k => hg.frozen_far ⟨g, k, none⟩ hl hne
  obtain ⟨h0, h1, h2, h3, h4, h5, h6⟩ := h
  unfold Free
  simp only [c]
  exact ⟨h0, h1, h2, h3, h4, h5, h6⟩
theorem KAMid.num (h : KAMid w wr B gR A len cap bs p bad g4 g7 x) (hr : RB w' B gR A len cap bs q b) (hg : wr.grownBy w' (some gR)) : KAMid w w' B gR A len cap bs q b g4 g7 x := by
  have n4 : some g4 ≠ some gR := fun e => by injection e with e; have := h.low; have := h.b4; omega
  have n7 : some g7 ≠ some gR := fun e => by injection e with e; have := h.low; have := h.b7; omega
  exact ⟨hr, h.grown.trans hg, h.low, h.b4, h.b7, h.h4.grown hg n4, h.f4.grown h.h4.lt hg n4, h.h7.grown hg n7, h.f7.grown h.h7.lt hg n7, h.ne⟩
theorem KAMid.cell (h : KAMid w wr B gR A len cap bs p bad g4 g7 x) (j : Nat) (v : Value) (hy : Holds (wr.setCell ⟨g7, j, none⟩ v) g7 y) (hf : Free (wr.setCell ⟨g7, j, none⟩ v) g7) : KAMid w (wr.setCell ⟨g7, j, none⟩ v) B gR A len cap bs p bad g4 g7 y := by
  have hg := g_cell wr g7 j v
  have n7 : some gR ≠ some g7 := fun e => by injection e with e; have := h.low; have := h.b7; omega
  have n4 : some g4 ≠ some g7 := fun e => h.ne (by injection e)
  exact ⟨h.pos.grown hg n7 (fun k e => by injection e with e; subst e; have := h.pos.base; have := h.low; have := h.b7; omega), grown_then h.grown hg (fun k e => by injection e with e; subst e; exact .inl h.b7), h.low, h.b4, h.b7, h.h4.grown hg n4, h.f4.grown h.h4.lt hg n4, hy, hf, h.ne⟩
theorem KAMid.set1 (h : KAMid w wr B gR A len cap bs p bad g4 g7 x) (v : Int) : KAMid w (wr.setCell ⟨g7, 1, none⟩ (.int .i64 v)) B gR A len cap bs p bad g4 g7 { x with cn := v } := by
  obtain ⟨h0, h1, h2, h3, h4, h5, h6⟩ := h.h7
  obtain ⟨f0, f1, f2, f3, f4, f5, f6⟩ := h.f7
  refine h.cell 1 _ ?_ ?_
  · unfold Holds
    simp [go_sem, *]
  · unfold Free
    simp [go_sem, *]
theorem KAMid.set2 (h : KAMid w wr B gR A len cap bs p bad g4 g7 x) (v : Int) : KAMid w (wr.setCell ⟨g7, 2, none⟩ (.int .i64 v)) B gR A len cap bs p bad g4 g7 { x with sm := v } := by
  obtain ⟨h0, h1, h2, h3, h4, h5, h6⟩ := h.h7
  obtain ⟨f0, f1, f2, f3, f4, f5, f6⟩ := h.f7
  refine h.cell 2 _ ?_ ?_
  · unfold Holds
    simp [go_sem, *]
  · unfold Free
    simp [go_sem, *]
theorem KAMid.set4 (h : KAMid w wr B gR A len cap bs p bad g4 g7 x) (v : Int) : KAMid w (wr.setCell ⟨g7, 4, none⟩ (.int .i64 v)) B gR A len cap bs p bad g4 g7 { x with mx := v } := by
  obtain ⟨h0, h1, h2, h3, h4, h5, h6⟩ := h.h7
  obtain ⟨f0, f1, f2, f3, f4, f5, f6⟩ := h.f7
  refine h.cell 4 _ ?_ ?_
  · unfold Holds
    simp [go_sem, *]
  · unfold Free
    simp [go_sem, *]
theorem KAMid.set5 (h : KAMid w wr B gR A len cap bs p bad g4 g7 x) (v : Int) : KAMid w (wr.setCell ⟨g7, 5, none⟩ (.int .i64 v)) B gR A len cap bs p bad g4 g7 { x with fi := v } := by
  obtain ⟨h0, h1, h2, h3, h4, h5, h6⟩ := h.h7
  obtain ⟨f0, f1, f2, f3, f4, f5, f6⟩ := h.f7
  refine h.cell 5 _ ?_ ?_
  · unfold Holds
    simp [go_sem, *]
  · unfold Free
    simp [go_sem, *]
theorem KAMid.set6 (h : KAMid w wr B gR A len cap bs p bad g4 g7 x) (v : Int) : KAMid w (wr.setCell ⟨g7, 6, none⟩ (.int .i64 v)) B gR A len cap bs p bad g4 g7 { x with la := v } := by
  obtain ⟨h0, h1, h2, h3, h4, h5, h6⟩ := h.h7
  obtain ⟨f0, f1, f2, f3, f4, f5, f6⟩ := h.f7
  refine h.cell 6 _ ?_ ?_
  · unfold Holds
    simp [go_sem, *]
  · unfold Free
    simp [go_sem, *]
/-- Behind the stores into the result. -/
theorem KAMid.ends (h : KAMid w wr B gR A len cap bs p bad g4 g7 x) (v0 v1 v2 v3 v4 v5 v6 : Value) : let wz := ((((((wr.setCell ⟨g4, 0, none⟩ v0).setCell ⟨g4, 1, none⟩ v1).setCell ⟨g4, 2, none⟩ v2).setCell ⟨g4, 3, none⟩ v3).setCell ⟨g4, 4, none⟩ v4).setCell ⟨g4, 5, none⟩ v5).setCell ⟨g4, 6, none⟩ v6
    RB wz B gR A len cap bs p bad ∧ w.grownBy wz (some gR) := by
  intro wz
  have hg : wr.grownBy wz (some g4) := ((((((g_cell wr g4 0 v0).trans (g_cell _ g4 1 v1)).trans (g_cell _ g4 2 v2)).trans (g_cell _ g4 3 v3)).trans (g_cell _ g4 4 v4)).trans (g_cell _ g4 5 v5)).trans (g_cell _ g4 6 v6)
  have n4 : some gR ≠ some g4 := fun e => by injection e with e; have := h.low; have := h.b4; omega
  exact ⟨h.pos.grown hg n4 (fun k e => by injection e with e; subst e; have := h.pos.base; have := h.low; have := h.b4; omega), grown_then h.grown hg (fun k e => by injection e with e; subst e; exact .inl h.b4)⟩
end
theorem results_cell_one {fn : Func} {p : Tmp} {ty : TypeId} (h : fn.results = #[.cell p ty]) (tmps : Array Value) (P : Program) (w : World) :
    (results fn tmps).run P w = ((asAddr (tmps.getD p undef)).run P w).andThen fun a w₁ => (loadVar ty a).run P w₁ := by
  simp only [results, h]
  simp [Sem.run_bind, Result.andThen]
def AgP (w : World) (B g : Nat) (A : Option Addr) (len cap : Nat) (bs : List Nat) (y : Ag × Nat × Bool) (e : Ending) (w' : World) : Prop :=
  e = .returned y.1.val ∧ RB w' B g A len cap bs y.2.1 y.2.2 ∧ w.grownBy w' (some g)

set_option maxRecDepth 100000 in
set_option maxHeartbeats 4000000 in
theorem agg_any (B gR : Nat) (A : Option Addr) (len cap : Nat) (bs : List Nat) (fr : Int) (p : Nat) (bad : Bool) (w : World) (h : RB w B gR A len cap bs p bad) (hfr : In64 fr) :
    Calls Tryz.prog 88 #[.pointer (some ⟨gR, 0, none⟩), .int .i64 fr] w (AgP w B gR A len cap bs (kAg bs fr p bad)) := by
  have HBY := Lib.hid h.by_.1
  obtain ⟨c, q1, b1, e1⟩ : ∃ a q b, numR bs p false = (a, q, b) := ⟨_, _, _, rfl⟩
  obtain ⟨m, q2, b2, e2⟩ : ∃ a q b, numR bs q1 false = (a, q, b) := ⟨_, _, _, rfl⟩
  have l1 := numR_le (bad := false) HBY.out h.le
  rw [e1] at l1
  have l2 := numR_le (bad := false) HBY.out l1.1
  rw [e2] at l2
  simp only at l1 l2
  have MN := Lib.hid (fun p bad w h => number_any B gR A len cap bs p bad w h)
  have M1 : Hid (∀ wx, RB wx B gR A len cap bs p bad → Calls Tryz.prog 84 #[.pointer (some ⟨gR, 0, none⟩)] wx fun e w' => e = .returned (.int .u64 (c : Int)) ∧ RB w' B gR A len cap bs q1 (bad || b1) ∧ wx.grownBy w' (some gR)) := Lib.hid (fun wx h => by
    have := MN.out p bad wx h
    unfold NumP at this
    rw [e1] at this
    exact this)
  obtain ⟨B1, hB1⟩ : ∃ B1, (bad || b1) = B1 := ⟨_, rfl⟩
  rw [hB1] at M1
  have M2 : Hid (∀ wx, RB wx B gR A len cap bs q1 B1 → Calls Tryz.prog 84 #[.pointer (some ⟨gR, 0, none⟩)] wx fun e w' => e = .returned (.int .u64 (m : Int)) ∧ RB w' B gR A len cap bs q2 (B1 || b2) ∧ wx.grownBy w' (some gR)) := Lib.hid (fun wx h => by
    have := MN.out q1 B1 wx h
    unfold NumP at this
    rw [e2] at this
    exact this)
  obtain ⟨B2, hB2⟩ : ∃ B2, (B1 || b2) = B2 := ⟨_, rfl⟩
  rw [hB2] at M2
  have mz := fun w => zag_any (m : Int) w (by omega) (by omega)
  have hzr := zag_range (m : Int) (by omega) (by omega)
  obtain ⟨z, hz⟩ : ∃ z, zag (m : Int) = z := ⟨_, rfl⟩
  rw [hz] at mz hzr
  have MZ := Lib.hid mz
  have mo := fun w => one_any fr z fr w hzr hfr
  unfold Ag.one Ag.val at mo
  simp only at mo
  have MO := Lib.hid mo
  have HLT := Lib.hid h.at_.lt
  have H0 : Hid (RB (w.alloc (.cells #[.int .i64 0, .int .i64 0, .int .i64 0, .int .i64 0, .int .i64 0, .int .i64 0, .int .i64 0] 50)) B gR A len cap bs p bad) := Lib.hid (h.grown (g_all _ _ none) (by simp) (fun k e => by cases e))
  have HZN : Hid (Holds (w.alloc (.cells #[.int .i64 0, .int .i64 0, .int .i64 0, .int .i64 0, .int .i64 0, .int .i64 0, .int .i64 0] 50)) w.heap.size Ag.zero ∧ Free (w.alloc (.cells #[.int .i64 0, .int .i64 0, .int .i64 0, .int .i64 0, .int .i64 0, .int .i64 0, .int .i64 0] 50)) w.heap.size) := Lib.hid ⟨by unfold Holds Ag.zero; simp, by unfold Free; simp⟩
  have HG0 : Hid (w.grownBy (w.alloc (.cells #[.int .i64 0, .int .i64 0, .int .i64 0, .int .i64 0, .int .i64 0, .int .i64 0, .int .i64 0] 50)) (some gR)) := Lib.hid (g_all _ _ _)
  clear mz h mo
  go_enter Tryz.func88, Tryz.ntmps88
  go_wp2_with fail
  refine (M1.out _ H0.out).mono ?_
  rintro e w1 ⟨rfl, hr1, hg1⟩
  have H1 := Lib.hid hr1
  have n4 : some w.heap.size ≠ some gR := fun e => by injection e with e; have := HLT.out; omega
  have HZ1 := Lib.hid (HZN.out.1.grown hg1 n4)
  have HF1 := Lib.hid (HZN.out.2.grown HZN.out.1.lt hg1 n4)
  have HG1 := Lib.hid (HG0.out.trans hg1)
  clear hr1 hg1 HZN HG0 H0
  generalize hw0 : w.heap.size = g4 at *
  have HW0 := Lib.hid hw0
  go_wp2_with fail
  refine (M2.out _ H1.out).mono ?_
  rintro e w2 ⟨rfl, hr2, hg2⟩
  have H2 := Lib.hid hr2
  have HZ2 := Lib.hid (HZ1.out.grown hg2 n4)
  have HF2 := Lib.hid (HF1.out.grown HZ1.out.lt hg2 n4)
  have HG2 := Lib.hid (HG1.out.trans hg2)
  clear hr2 hg2 HZ1 HF1 HG1 H1
  go_wp2_with fail
  refine (MZ.out _).mono ?_
  rintro e w2' ⟨rfl, rfl⟩
  go_wp2_with fail
  refine (MO.out _).mono ?_
  rintro e w3 ⟨rfl, hb3⟩
  have HK : Hid (KAMid w (w3.alloc (.cells #[.int .i64 fr, .int .i64 1, .int .i64 z, .int .i64 z, .int .i64 z, .int .i64 z, .int .i64 z] 50)) B gR A len cap bs q2 B2 g4 w3.heap.size ⟨fr, 1, z, z, z, z, z⟩) := Lib.hid (by
    have g3 := grown_of hb3 none
    have ga := g_all w3 (.cells #[.int .i64 fr, .int .i64 1, .int .i64 z, .int .i64 z, .int .i64 z, .int .i64 z, .int .i64 z] 50) none
    have z3 := HZ2.out.grown g3 (by simp)
    have f3 := HF2.out.grown HZ2.out.lt g3 (by simp)
    have hsz : w.heap.size ≤ w3.heap.size := Nat.le_trans HG2.out.size hb3.size
    refine ⟨(H2.out.grown g3 (by simp) (fun k e => by cases e)).grown ga (by simp) (fun k e => by cases e), grown_then (grown_then HG2.out g3 (fun j e => by cases e)) ga (fun j e => by cases e), by rw [HW0.out]; exact HLT.out, by rw [HW0.out]; omega, hsz, z3.grown ga (by simp), f3.grown z3.lt ga (by simp), by unfold Holds; simp, by unfold Free; simp, ?_⟩
    have := z3.lt
    omega)
  clear hb3 HZ2 HF2 HG2 H2 hw0 n4
  by_cases hc0 : c = 0
  · have hce : ((c : Int) == 0) = true := by simp [hc0]
    obtain ⟨h0, h1, h2, h3, h4, h5, h6⟩ := HK.out.h7
    obtain ⟨y0, y1, y2, y3, y4, y5, y6⟩ := HK.out.h4
    obtain ⟨x0, x1, x2, x3, x4, x5, x6⟩ := HK.out.f4
    simp only at h0 h1 h2 h3 h4 h5 h6
    have HE := Lib.hid (HK.out.ends (.int .i64 fr) (.int .i64 1) (.int .i64 z) (.int .i64 z) (.int .i64 z) (.int .i64 z) (.int .i64 z))
    have HV : Hid (kAg bs fr p bad = (⟨fr, 1, z, z, z, z, z⟩, q2, B2)) := Lib.hid (by
      unfold kAg
      simp only [e1, e2, hB1, hB2, hz]
      rw [if_pos hc0]
      rfl)
    clear hc0 e1 e2 hB1 hB2 hz
    go_upto_region 5 with fail
    generalize w3.alloc (.cells #[.int .i64 fr, .int .i64 1, .int .i64 z, .int .i64 z, .int .i64 z, .int .i64 z, .int .i64 z] 50) = w4 at *
    generalize w3.heap.size = g7 at *
    go_wp2
    (try simp only [Exit.inBlock, Exit.then])
    refine bodyPost_ret (v := .agg #[.int .i64 fr, .int .i64 1, .int .i64 z, .int .i64 z, .int .i64 z, .int .i64 z, .int .i64 z]) ?_ rfl ⟨by rw [HV.out]; rfl, by rw [HV.out]; exact HE.out.1, HE.out.2⟩
    rw [results_cell_one rfl]
    go_simp
  · have hce : ((c : Int) == 0) = false := by simpa using hc0
    obtain ⟨X, q3, b3, e3⟩ : ∃ a q b, numR bs q2 false = (a, q, b) := ⟨_, _, _, rfl⟩
    have l3 := numR_le (bad := false) HBY.out l2.1
    rw [e3] at l3
    simp only at l3
    obtain ⟨S, q4, b4, e4⟩ : ∃ a q b, numR bs q3 false = (a, q, b) := ⟨_, _, _, rfl⟩
    have l4 := numR_le (bad := false) HBY.out l3.1
    rw [e4] at l4
    simp only at l4
    obtain ⟨I, q5, b5, e5⟩ : ∃ a q b, numR bs q4 false = (a, q, b) := ⟨_, _, _, rfl⟩
    have l5 := numR_le (bad := false) HBY.out l4.1
    rw [e5] at l5
    simp only at l5
    obtain ⟨J, q6, b6, e6⟩ : ∃ a q b, numR bs q5 false = (a, q, b) := ⟨_, _, _, rfl⟩
    obtain ⟨B3, hB3⟩ : ∃ B3, (B2 || b3) = B3 := ⟨_, rfl⟩
    obtain ⟨B4, hB4⟩ : ∃ B4, (B3 || b4) = B4 := ⟨_, rfl⟩
    obtain ⟨B5, hB5⟩ : ∃ B5, (B4 || b5) = B5 := ⟨_, rfl⟩
    obtain ⟨B6, hB6⟩ : ∃ B6, (B5 || b6) = B6 := ⟨_, rfl⟩
    have M3 : Hid (∀ wx, RB wx B gR A len cap bs q2 B2 → Calls Tryz.prog 84 #[.pointer (some ⟨gR, 0, none⟩)] wx fun e w' => e = .returned (.int .u64 (X : Int)) ∧ RB w' B gR A len cap bs q3 B3 ∧ wx.grownBy w' (some gR)) := Lib.hid (fun wx h => by
      have := MN.out q2 B2 wx h
      unfold NumP at this
      rw [e3, hB3] at this
      exact this)
    have M4 : Hid (∀ wx, RB wx B gR A len cap bs q3 B3 → Calls Tryz.prog 84 #[.pointer (some ⟨gR, 0, none⟩)] wx fun e w' => e = .returned (.int .u64 (S : Int)) ∧ RB w' B gR A len cap bs q4 B4 ∧ wx.grownBy w' (some gR)) := Lib.hid (fun wx h => by
      have := MN.out q3 B3 wx h
      unfold NumP at this
      rw [e4, hB4] at this
      exact this)
    have M5 : Hid (∀ wx, RB wx B gR A len cap bs q4 B4 → Calls Tryz.prog 84 #[.pointer (some ⟨gR, 0, none⟩)] wx fun e w' => e = .returned (.int .u64 (I : Int)) ∧ RB w' B gR A len cap bs q5 B5 ∧ wx.grownBy w' (some gR)) := Lib.hid (fun wx h => by
      have := MN.out q4 B4 wx h
      unfold NumP at this
      rw [e5, hB5] at this
      exact this)
    have M6 : Hid (∀ wx, RB wx B gR A len cap bs q5 B5 → Calls Tryz.prog 84 #[.pointer (some ⟨gR, 0, none⟩)] wx fun e w' => e = .returned (.int .u64 (J : Int)) ∧ RB w' B gR A len cap bs q6 B6 ∧ wx.grownBy w' (some gR)) := Lib.hid (fun wx h => by
      have := MN.out q5 B5 wx h
      unfold NumP at this
      rw [e6, hB6] at this
      exact this)
    have ms := fun w => zag_any (S : Int) w (by omega) (by omega)
    obtain ⟨sm, hsm⟩ : ∃ sm, zag (S : Int) = sm := ⟨_, rfl⟩
    rw [hsm] at ms
    have MS := Lib.hid ms
    obtain ⟨cn, hcn⟩ : ∃ cn, w64 ((c : Int) + 1) = cn := ⟨_, rfl⟩
    obtain ⟨mx, hmx⟩ : ∃ mx, w64 (z + (X : Int)) = mx := ⟨_, rfl⟩
    obtain ⟨fi, hfi⟩ : ∃ fi, w64 (z + (I : Int)) = fi := ⟨_, rfl⟩
    obtain ⟨la, hla⟩ : ∃ la, w64 (z + (J : Int)) = la := ⟨_, rfl⟩
    have HV : Hid (kAg bs fr p bad = (⟨fr, cn, sm, z, mx, fi, la⟩, q6, B6)) := Lib.hid (by
      unfold kAg
      simp only [e1, e2, e3, e4, e5, e6, hB1, hB2, hB3, hB4, hB5, hB6, hz, hsm, hcn, hmx, hfi, hla]
      rw [if_neg hc0])
    obtain ⟨U1, hU1⟩ : ∃ U, IntKind.u64.wrap ((c : Int) + 1) = U := ⟨_, rfl⟩
    have w1 : IntKind.i64.wrap U1 = cn := by
      rw [← hcn, ← hU1]
      simp only [IntKind.wrap_u64, IntKind.wrap_i64]
      unfold w64
      omega
    obtain ⟨X1, hX1⟩ : ∃ U, IntKind.i64.wrap (X : Int) = U := ⟨_, rfl⟩
    have w2 : IntKind.i64.wrap (z + X1) = mx := by
      rw [← hmx, ← hX1]
      simp only [IntKind.wrap_i64]
      unfold w64
      omega
    obtain ⟨I1, hI1⟩ : ∃ U, IntKind.i64.wrap (I : Int) = U := ⟨_, rfl⟩
    have w3' : IntKind.i64.wrap (z + I1) = fi := by
      rw [← hfi, ← hI1]
      simp only [IntKind.wrap_i64]
      unfold w64
      omega
    obtain ⟨J1, hJ1⟩ : ∃ U, IntKind.i64.wrap (J : Int) = U := ⟨_, rfl⟩
    have w4' : IntKind.i64.wrap (z + J1) = la := by
      rw [← hla, ← hJ1]
      simp only [IntKind.wrap_i64]
      unfold w64
      omega
    clear hc0 e1 e2 e3 e4 e5 e6 hB1 hB2 hB3 hB4 hB5 hB6 hz hsm hcn hmx hfi hla ms l1 l2 l3 l4 l5 M1 M2 MO MZ hzr
    go_upto_region 6 with fail
    generalize w3.alloc (.cells #[.int .i64 fr, .int .i64 1, .int .i64 z, .int .i64 z, .int .i64 z, .int .i64 z, .int .i64 z] 50) = w4 at *
    generalize w3.heap.size = g7 at *
    obtain ⟨h0, h1, h2, h3, h4, h5, h6⟩ := HK.out.h7
    obtain ⟨x0, x1, x2, x3, x4, x5, x6⟩ := HK.out.f7
    have HK1 := Lib.hid (HK.out.set1 cn)
    simp only at h1
    go_upto_region 7 with fail
    clear h0 h1 h2 h3 h4 h5 h6 x0 x1 x2 x3 x4 x5 x6 HK hU1 w1
    generalize w4.setCell ⟨g7, 1, none⟩ (.int .i64 cn) = w5 at *
    go_wp2_with fail
    refine (M3.out _ HK1.out.pos).mono ?_
    rintro e w6 ⟨rfl, hr6, hg6⟩
    have HK2 := Lib.hid (HK1.out.num hr6 hg6)
    obtain ⟨h0, h1, h2, h3, h4, h5, h6⟩ := HK2.out.h7
    obtain ⟨x0, x1, x2, x3, x4, x5, x6⟩ := HK2.out.f7
    have HK3 := Lib.hid (HK2.out.set4 mx)
    clear hr6 hg6 HK1 HK2
    go_upto_region 8 with fail
    clear h0 h1 h2 h3 h4 h5 h6 x0 x1 x2 x3 x4 x5 x6 hX1 w2
    generalize w6.setCell ⟨g7, 4, none⟩ (.int .i64 mx) = w7 at *
    go_wp2_with fail
    refine (M4.out _ HK3.out.pos).mono ?_
    rintro e w8 ⟨rfl, hr8, hg8⟩
    have HK4 := Lib.hid (HK3.out.num hr8 hg8)
    clear hr8 hg8 HK3
    go_wp2_with fail
    refine (MS.out _).mono ?_
    rintro e w8' ⟨rfl, rfl⟩
    obtain ⟨h0, h1, h2, h3, h4, h5, h6⟩ := HK4.out.h7
    obtain ⟨x0, x1, x2, x3, x4, x5, x6⟩ := HK4.out.f7
    have HK5 := Lib.hid (HK4.out.set2 sm)
    clear HK4
    go_upto_region 9 with fail
    clear h0 h1 h2 h3 h4 h5 h6 x0 x1 x2 x3 x4 x5 x6
    generalize w8.setCell ⟨g7, 2, none⟩ (.int .i64 sm) = w9 at *
    go_wp2_with fail
    refine (M5.out _ HK5.out.pos).mono ?_
    rintro e w10 ⟨rfl, hr10, hg10⟩
    have HK6 := Lib.hid (HK5.out.num hr10 hg10)
    obtain ⟨h0, h1, h2, h3, h4, h5, h6⟩ := HK6.out.h7
    obtain ⟨x0, x1, x2, x3, x4, x5, x6⟩ := HK6.out.f7
    have HK7 := Lib.hid (HK6.out.set5 fi)
    clear hr10 hg10 HK5 HK6
    go_upto_region 10 with fail
    clear h0 h1 h2 h3 h4 h5 h6 x0 x1 x2 x3 x4 x5 x6 hI1 w3'
    generalize w10.setCell ⟨g7, 5, none⟩ (.int .i64 fi) = w11 at *
    go_wp2_with fail
    refine (M6.out _ HK7.out.pos).mono ?_
    rintro e w12 ⟨rfl, hr12, hg12⟩
    have HK8 := Lib.hid (HK7.out.num hr12 hg12)
    obtain ⟨h0, h1, h2, h3, h4, h5, h6⟩ := HK8.out.h7
    obtain ⟨x0, x1, x2, x3, x4, x5, x6⟩ := HK8.out.f7
    have HK9 := Lib.hid (HK8.out.set6 la)
    clear hr12 hg12 HK7 HK8
    go_upto_region 11 with fail
    clear h0 h1 h2 h3 h4 h5 h6 x0 x1 x2 x3 x4 x5 x6 hJ1 w4'
    generalize w12.setCell ⟨g7, 6, none⟩ (.int .i64 la) = w13 at *
    obtain ⟨h0, h1, h2, h3, h4, h5, h6⟩ := HK9.out.h7
    simp only at h0 h1 h2 h3 h4 h5 h6
    obtain ⟨y0, y1, y2, y3, y4, y5, y6⟩ := HK9.out.h4
    obtain ⟨x0, x1, x2, x3, x4, x5, x6⟩ := HK9.out.f4
    have HE := Lib.hid (HK9.out.ends (.int .i64 fr) (.int .i64 cn) (.int .i64 sm) (.int .i64 z) (.int .i64 mx) (.int .i64 fi) (.int .i64 la))
    go_wp2
    (try simp only [Exit.inBlock, Exit.then])
    refine bodyPost_ret (v := .agg #[.int .i64 fr, .int .i64 cn, .int .i64 sm, .int .i64 z, .int .i64 mx, .int .i64 fi, .int .i64 la]) ?_ rfl ⟨by rw [HV.out]; rfl, by rw [HV.out]; exact HE.out.1, HE.out.2⟩
    rw [results_cell_one rfl]
    go_simp
end Go.Proofs.YtepancmkopifpaaGreatDoor
