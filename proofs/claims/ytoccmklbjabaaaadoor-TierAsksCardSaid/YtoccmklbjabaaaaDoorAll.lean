/-
  All: what it returns at every row of samples and every beginning; nothing that was there is written.
-/
import Derived.Test.YtoccmklbjabaaaaDoorJoin
import Derived.Deep.RegionHeld3
import Derived.Deep.DrawnRows
namespace Go.Proofs.YtoccmklbjabaaaaDoor
open Go.RowKit
attribute [local go_sem ↓] Go.wp_at_zero Go.wp_at_succ

/-- The slice at A reads as the samples l. -/
def Samps (w : World) (A : Option Addr) (l : List (Int × Int)) : Prop :=
  (∀ s ∈ l, In64 s.1 ∧ In64 s.2) ∧ (0 < l.length → ∃ b off, A = some ⟨b, off, none⟩ ∧ ∀ j, j < l.length →
    w.cell? ⟨b, off + j * 2, none⟩ = some (.int .i64 (l.getD j (0, 0)).1) ∧ w.cell? ⟨b, off + j * 2 + 1, none⟩ = some (.int .i64 (l.getD j (0, 0)).2))

theorem belowN (w : World) (n : Nat) : Below w.heap.size w (w.drewN n) := ⟨rfl, rfl, rfl, Nat.le_refl _, fun _ _ => rfl⟩
theorem sample_mem {l : List (Int × Int)} {j : Nat} (h : j < l.length) : l.getD j (0, 0) ∈ l := by
  have e : l.getD j (0, 0) = l[j] := by simp [h]
  rw [e]; exact List.getElem_mem h
theorem drop_map {l : List (Int × Int)} {k : Nat} (h : k < l.length) : (l.map (·.2)).drop k = (l.getD k (0, 0)).2 :: (l.map (·.2)).drop (k + 1) := by
  have h' : k < (l.map (·.2)).length := by simpa using h
  rw [List.drop_eq_getElem_cons h']
  congr 1
  simp [h]

theorem all_at {l : List (Int × Int)} {f : Int} (h : 0 < l.length) (hf : Ag.begin_ f) : all f (l.map (·.2)) = goOn f (.one (l.getD 0 (0, 0)).2 f) ((l.map (·.2)).drop (0 + 1)) := by
  match l, h with
  | s :: r, _ => simp [all, hf]
theorem goOn_cons (f : Int) (a : Ag) (v : Int) (r : List Int) {j : Ag × Int} (h : join a (.one v f) = j) : goOn f a (v :: r) = if j.2 = 0 then goOn f j.1 r else j := by
  subst h
  rfl

/-- The two variables that All holds: what was joined so far, what it will return. -/
def AllHolds (w wr : World) (g6 : Nat) (a : Ag) : Prop :=
  Holds wr g6 a ∧ Free wr g6 ∧ g6 < wr.heap.size ∧ w.heap.size < g6 ∧ Holds wr w.heap.size Ag.zero ∧ Free wr w.heap.size ∧ Below w.heap.size w wr
theorem holds_set {wr : World} {g : Nat} {a0 a : Ag} (h : Holds wr g a0) :
    Holds (((((((wr.setCell ⟨g, 0, none⟩ (.int .i64 a.fr)).setCell ⟨g, 1, none⟩ (.int .i64 a.cn)).setCell ⟨g, 2, none⟩ (.int .i64 a.sm)).setCell ⟨g, 3, none⟩ (.int .i64 a.mn)).setCell ⟨g, 4, none⟩ (.int .i64 a.mx)).setCell ⟨g, 5, none⟩ (.int .i64 a.fi)).setCell ⟨g, 6, none⟩ (.int .i64 a.la)) g a := by
  obtain ⟨h0, h1, h2, h3, h4, h5, h6⟩ := h
  unfold Holds
  simp [go_sem, *]
theorem holds_other {wr : World} {g g' : Nat} {a : Ag} (h : Holds wr g a) (hne : g ≠ g') (v0 v1 v2 v3 v4 v5 v6 : Value) :
    Holds (((((((wr.setCell ⟨g', 0, none⟩ v0).setCell ⟨g', 1, none⟩ v1).setCell ⟨g', 2, none⟩ v2).setCell ⟨g', 3, none⟩ v3).setCell ⟨g', 4, none⟩ v4).setCell ⟨g', 5, none⟩ v5).setCell ⟨g', 6, none⟩ v6) g a := by
  obtain ⟨h0, h1, h2, h3, h4, h5, h6⟩ := h
  unfold Holds
  simp [go_sem, *]
theorem free_set {wr : World} {g g' : Nat} (h : Free wr g) (v0 v1 v2 v3 v4 v5 v6 : Value) :
    Free (((((((wr.setCell ⟨g', 0, none⟩ v0).setCell ⟨g', 1, none⟩ v1).setCell ⟨g', 2, none⟩ v2).setCell ⟨g', 3, none⟩ v3).setCell ⟨g', 4, none⟩ v4).setCell ⟨g', 5, none⟩ v5).setCell ⟨g', 6, none⟩ v6) g := by
  unfold Free at *
  simpa using h
theorem below_set {w wr : World} {B g' : Nat} (h : Below B w wr) (hg : B ≤ g') (v0 v1 v2 v3 v4 v5 v6 : Value) :
    Below B w (((((((wr.setCell ⟨g', 0, none⟩ v0).setCell ⟨g', 1, none⟩ v1).setCell ⟨g', 2, none⟩ v2).setCell ⟨g', 3, none⟩ v3).setCell ⟨g', 4, none⟩ v4).setCell ⟨g', 5, none⟩ v5).setCell ⟨g', 6, none⟩ v6) :=
  ((((((h.setCell hg _).setCell hg _).setCell hg _).setCell hg _).setCell hg _).setCell hg _).setCell hg _
theorem AllHolds.set {w wr : World} {g6 : Nat} {a0 : Ag} (a : Ag) (h : AllHolds w wr g6 a0) :
    AllHolds w (((((((wr.setCell ⟨g6, 0, none⟩ (.int .i64 a.fr)).setCell ⟨g6, 1, none⟩ (.int .i64 a.cn)).setCell ⟨g6, 2, none⟩ (.int .i64 a.sm)).setCell ⟨g6, 3, none⟩ (.int .i64 a.mn)).setCell ⟨g6, 4, none⟩ (.int .i64 a.mx)).setCell ⟨g6, 5, none⟩ (.int .i64 a.fi)).setCell ⟨g6, 6, none⟩ (.int .i64 a.la)) g6 a := by
  obtain ⟨h1, h2, h3, h4, h5, h6, h7⟩ := h
  have hb := below_set (Below.refl 0 wr) (Nat.zero_le g6) (.int .i64 a.fr) (.int .i64 a.cn) (.int .i64 a.sm) (.int .i64 a.mn) (.int .i64 a.mx) (.int .i64 a.fi) (.int .i64 a.la)
  exact ⟨holds_set h1, free_set h2 _ _ _ _ _ _ _, Nat.lt_of_lt_of_le h3 hb.size, h4, holds_other h5 (by omega) _ _ _ _ _ _ _, free_set h6 _ _ _ _ _ _ _, below_set h7 (by omega) _ _ _ _ _ _ _⟩
theorem AllHolds.below {w wr w' : World} {g6 : Nat} {a : Ag} (h : AllHolds w wr g6 a) (hb : Below wr.heap.size wr w') : AllHolds w w' g6 a := by
  obtain ⟨h1, h2, h3, h4, h5, h6, h7⟩ := h
  exact ⟨h1.below hb, h2.below h3 hb, Nat.lt_of_lt_of_le h3 hb.size, h4, h5.below hb, h6.below (by omega) hb, h7.trans (hb.mono h7.size)⟩

set_option maxRecDepth 100000 in
set_option maxHeartbeats 2000000 in
theorem all_in (b off n cap : Nat) (l : List (Int × Int)) (f : Int) (w : World) (hl : l.length = n + 1) (hlen : 1 ≤ n) (hb : ∀ s ∈ l, In64 s.1 ∧ In64 s.2) (hc : n + 1 ≤ cap) (hm : cap ≤ maxLen) (hf : Ag.begin_ f)
    (hcell : ∀ j, j < n + 1 → w.cell? ⟨b, off + j * 2, none⟩ = some (.int .i64 (l.getD j (0, 0)).1) ∧ w.cell? ⟨b, off + j * 2 + 1, none⟩ = some (.int .i64 (l.getD j (0, 0)).2)) :
    Calls Tryd.prog 26 #[.slice (some ⟨b, off, none⟩) (n + 1) cap, .int .i64 f] w fun e w' => e = .returned (.tuple #[(all f (l.map (·.2))).1.val, .int .i64 (all f (l.map (·.2))).2]) ∧ Below w.heap.size w w' := by
  unfold maxLen at hm
  have hf64 : In64 f := by
    unfold Ag.begin_ at hf
    unfold In64
    omega
  have m1 := fun w => begin_any f w hf64
  rw [decide_eq_true hf] at m1
  have M1 := Lib.hid m1
  obtain ⟨c0, c1⟩ := hcell 0 (by omega)
  simp only [Nat.zero_mul, Nat.add_zero] at c0 c1
  have hb0 := hb (l.getD 0 (0, 0)) (sample_mem (by omega))
  have hR : all f (l.map (·.2)) = goOn f (.one (l.getD 0 (0, 0)).2 f) ((l.map (·.2)).drop (0 + 1)) := all_at (by omega) hf
  generalize all f (l.map (·.2)) = R at hR
  obtain ⟨⟨Rfr, Rcn, Rsm, Rmn, Rmx, Rfi, Rla⟩, Rc⟩ := R
  generalize hs0 : l.getD 0 (0, 0) = s0 at c0 c1 hb0 hR
  obtain ⟨t0, v0⟩ := s0
  simp only at c0 c1 hb0 hR
  have m2 := fun w => one_any t0 v0 f w hb0.2 hf64
  have M2 := Lib.hid m2
  have HCELL := Lib.hid hcell
  have HL := Lib.hid hl
  have HB := Lib.hid hb
  have HR := Lib.hid hR
  have HV0 := Lib.hid hb0.2
  have hlt : b < w.heap.size := World.block_lt_of_cell? w _ c0
  have HZ : Hid (Holds (w.alloc (.cells #[.int .i64 0, .int .i64 0, .int .i64 0, .int .i64 0, .int .i64 0, .int .i64 0, .int .i64 0] 43)) w.heap.size Ag.zero ∧ Free (w.alloc (.cells #[.int .i64 0, .int .i64 0, .int .i64 0, .int .i64 0, .int .i64 0, .int .i64 0, .int .i64 0] 43)) w.heap.size ∧
      Below w.heap.size w (w.alloc (.cells #[.int .i64 0, .int .i64 0, .int .i64 0, .int .i64 0, .int .i64 0, .int .i64 0, .int .i64 0] 43)) ∧ w.heap.size < (w.alloc (.cells #[.int .i64 0, .int .i64 0, .int .i64 0, .int .i64 0, .int .i64 0, .int .i64 0, .int .i64 0] 43)).heap.size) := Lib.hid (by
    refine ⟨?_, ?_, (Below.refl _ _).alloc (Nat.le_refl _) _, by simp⟩
    · unfold Holds Ag.zero
      simp
    · unfold Free
      simp)
  have HF := Lib.hid hf
  have HF64 := Lib.hid hf64
  have h1c : 1 < cap := by omega
  unfold Ag.val at *
  clear hcell hl hb hs0 m1 m2 hb0 hR hf hf64
  go_enter Tryd.func26, Tryd.ntmps26
  go_wp2
  go_step3
  go_wp2_with fail
  refine (M1.out _).mono ?_
  rintro e w2 ⟨rfl, rfl⟩
  go_wp2_with fail
  refine (M2.out _).mono ?_
  rintro e w2 ⟨rfl, hb2⟩
  have HH : Hid (AllHolds w (w2.alloc (.cells #[.int .i64 (Ag.one v0 f).fr, .int .i64 (Ag.one v0 f).cn, .int .i64 (Ag.one v0 f).sm, .int .i64 (Ag.one v0 f).mn, .int .i64 (Ag.one v0 f).mx, .int .i64 (Ag.one v0 f).fi, .int .i64 (Ag.one v0 f).la] 43)) w2.heap.size (Ag.one v0 f)) := Lib.hid (by
    obtain ⟨z1, z2, z3, z4⟩ := HZ.out
    have hb3 := (Below.refl w2.heap.size w2).alloc (Nat.le_refl _) (.cells #[.int .i64 (Ag.one v0 f).fr, .int .i64 (Ag.one v0 f).cn, .int .i64 (Ag.one v0 f).sm, .int .i64 (Ag.one v0 f).mn, .int .i64 (Ag.one v0 f).mx, .int .i64 (Ag.one v0 f).fi, .int .i64 (Ag.one v0 f).la] 43)
    refine ⟨?_, ?_, by simp, Nat.lt_of_lt_of_le z4 hb2.size, (z1.below hb2).below hb3, (z2.below z4 hb2).below (Nat.lt_of_lt_of_le z4 hb2.size) hb3, (z3.trans (hb2.mono z3.size)).trans (hb3.mono (Nat.le_trans z3.size hb2.size))⟩
    · unfold Holds
      simp
    · unfold Free
      simp)
  clear hb2 HZ c0 c1
  go_wp2
  go_step3
  go_wp2
  generalize hg6 : w2.heap.size = g6 at *
  go_loopw [7, 27] (fun sc si wr => ∃ (k : Nat) (a : Ag), k ≤ n ∧ si = .int .i64 (k : Int) ∧ sc = .int .i64 0 ∧ Hid ((⟨Rfr, Rcn, Rsm, Rmn, Rmx, Rfi, Rla⟩, Rc) = goOn f a ((l.map (·.2)).drop (k + 1))) ∧ Hid a.ok ∧ Hid (AllHolds w wr g6 a)) (fun _ si _ => n - (intOf si).toNat)
  case atStart => exact ⟨0, Ag.one v0 f, by omega, rfl, rfl, HR, Lib.hid (one_ok HF.out HV0.out), HH⟩
  case round =>
    obtain ⟨k, a, hk, rfl, rfl, HD, HOK, HA⟩ := hrel
    by_cases hlt : k < n
    · obtain ⟨c0, c1⟩ := HCELL.out (k + 1) (by omega)
      have hbk := HB.out (l.getD (k + 1) (0, 0)) (sample_mem (by rw [HL.out]; omega))
      have hd := drop_map (l := l) (k := k + 1) (by rw [HL.out]; omega)
      generalize l.getD (k + 1) (0, 0) = s1 at c0 c1 hbk hd
      obtain ⟨t1, v1⟩ := s1
      simp only at c0 c1 hbk hd
      have hbel := HA.out.2.2.2.2.2.2
      rw [show off + (k + 1) * 2 = off + 2 + k * 2 by omega, ← hbel.cell (World.block_lt_of_cell? w _ c0)] at c0
      rw [show off + (k + 1) * 2 + 1 = off + 2 + k * 2 + 1 by omega, ← hbel.cell (World.block_lt_of_cell? w _ c1)] at c1
      have m3 := fun w => one_any t1 v1 f w hbk.2 HF64.out
      have m4 := fun w => join_any a (.one v1 f) w HOK.out (one_ok HF.out hbk.2)
      have hok := join_ok HOK.out (one_ok HF.out hbk.2)
      have hgo := goOn_cons f a v1 ((l.map (·.2)).drop (k + 1 + 1)) rfl
      rw [← hd, ← HD.out] at hgo
      generalize join a (.one v1 f) = j at m4 hok hgo
      obtain ⟨ja, jc⟩ := j
      simp only at m4 hok hgo
      have M3 := Lib.hid m3
      have M4 := Lib.hid m4
      have HOK' := Lib.hid hok
      have HGO := Lib.hid hgo
      clear m3 m4 hok hgo hd hbk hbel HD HOK
      unfold Ag.val at M3 M4
      have HA9 : Hid (AllHolds w (wr.alloc (.cells #[.int .i64 t1, .int .i64 v1] 28)) g6 a) := Lib.hid (HA.out.below ((Below.refl _ _).alloc (Nat.le_refl _) _))
      have hcap : (k : Int) < (n : Int) := by omega
      have e0 : (wr.alloc (.cells #[.int .i64 t1, .int .i64 v1] 28)).cell? ⟨wr.heap.size, 0, none⟩ = some (.int .i64 t1) := by simp
      have e1 : (wr.alloc (.cells #[.int .i64 t1, .int .i64 v1] 28)).cell? ⟨wr.heap.size, 1, none⟩ = some (.int .i64 v1) := by simp
      have E0 := Lib.hid e0
      have E1 := Lib.hid e1
      clear e0 e1
      go_upto_region 7 with fail
      clear c0 c1
      have hc9 := E0.out
      have hc9' := E1.out
      obtain ⟨a0, a1, a2, a3, a4, a5, a6⟩ := HA9.out.1
      generalize wr.alloc (.cells #[.int .i64 t1, .int .i64 v1] 28) = ws at *
      generalize wr.heap.size = g9 at *
      have hS : ∀ w', Below ws.heap.size ws w' → w'.cell? ⟨g9, 0, none⟩ = some (.int .i64 t1) ∧ w'.cell? ⟨g9, 1, none⟩ = some (.int .i64 v1) ∧ w'.cell? ⟨g6, 0, none⟩ = some (.int .i64 a.fr) ∧ w'.cell? ⟨g6, 1, none⟩ = some (.int .i64 a.cn) ∧ w'.cell? ⟨g6, 2, none⟩ = some (.int .i64 a.sm) ∧ w'.cell? ⟨g6, 3, none⟩ = some (.int .i64 a.mn) ∧
          w'.cell? ⟨g6, 4, none⟩ = some (.int .i64 a.mx) ∧ w'.cell? ⟨g6, 5, none⟩ = some (.int .i64 a.fi) ∧ w'.cell? ⟨g6, 6, none⟩ = some (.int .i64 a.la) := fun w' hb => by
        refine ⟨?_, ?_, (HA9.out.below hb).1⟩
        · rw [hb.cell (World.block_lt_of_cell? ws _ E0.out)]; exact E0.out
        · rw [hb.cell (World.block_lt_of_cell? ws _ E1.out)]; exact E1.out
      have HS := Lib.hid hS
      clear hS
      go_region_with (first
          | (go_at_call 34; refine (M3.out _).mono ?_; rintro e wt ⟨rfl, hbt⟩; have hB : Below ws.heap.size ws wt := (belowN ws 1).trans hbt; obtain ⟨b0, b1, b2, b3, b4, b5, b6⟩ := (HA9.out.below hB).1)
          | (go_at_call 27; refine (M4.out _).mono ?_; rintro e wv ⟨rfl, hbv⟩; have hBv : Below ws.heap.size ws wv := hB.trans (hbv.mono hB.size); obtain ⟨z0, z1, z2, z3, z4, z5, z6⟩ := (HA9.out.below hBv).1; obtain ⟨f0, f1, f2, f3, f4, f5, f6⟩ := (HA9.out.below hBv).2.1))
      all_goals
        have HW := Lib.hid (AllHolds.set ja (HA9.out.below hBv))
        clear a0 a1 a2 a3 a4 a5 a6 b0 b1 b2 b3 b4 b5 b6 z0 z1 z2 z3 z4 z5 z6 f0 f1 f2 f3 f4 f5 f6 hc9 hc9' hbt hbv hB hBv HS E0 E1 HA9 HA M3 M4
        generalize ((((((wv.setCell ⟨g6, 0, none⟩ (.int .i64 ja.fr)).setCell ⟨g6, 1, none⟩ (.int .i64 ja.cn)).setCell ⟨g6, 2, none⟩ (.int .i64 ja.sm)).setCell ⟨g6, 3, none⟩ (.int .i64 ja.mn)).setCell ⟨g6, 4, none⟩ (.int .i64 ja.mx)).setCell ⟨g6, 5, none⟩ (.int .i64 ja.fi)).setCell ⟨g6, 6, none⟩ (.int .i64 ja.la) = wz at *
        by_cases hz : jc = 0
        · have HN := Lib.hid (HGO.out.trans (if_pos hz))
          subst hz
          go_wp2
          go_roundw
          case rel => exact ⟨k + 1, ja, by omega, by go_num, rfl, HN, HOK', HW⟩
          case measure => simp [intOf]; omega
        · have HN := Lib.hid (HGO.out.trans (if_neg hz))
          have hz' : (jc == 0) = false := by simpa using hz
          obtain ⟨d0, d1, d2, d3, d4, d5, d6⟩ := HW.out.1
          obtain ⟨z0, z1, z2, z3, z4, z5, z6⟩ := HW.out.2.2.2.2.1
          obtain ⟨f0, f1, f2, f3, f4, f5, f6⟩ := HW.out.2.2.2.2.2.1
          go_wp2
          (try rw [Exit.noGoto_ret])
          (try simp only [Exit.inBlock, Exit.then])
          refine bodyPost_ret (v := .tuple #[.agg #[.int .i64 ja.fr, .int .i64 ja.cn, .int .i64 ja.sm, .int .i64 ja.mn, .int .i64 ja.mx, .int .i64 ja.fi, .int .i64 ja.la], .int .i64 jc]) ?_ rfl ⟨?_, ?_⟩
          · rw [results_cell_tmp rfl]
            go_simp
          · have e := HN.out
            obtain ⟨fr, cn, sm, mn, mx, fi, la⟩ := ja
            injection e with e1 e2
            injection e1 with e1 e3 e4 e5 e6 e7 e8
            subst e1 e2 e3 e4 e5 e6 e7 e8
            rfl
          · exact below_set HW.out.2.2.2.2.2.2 (Nat.le_refl _) _ _ _ _ _ _ _
    · obtain ⟨d0, d1, d2, d3, d4, d5, d6⟩ := HA.out.1
      obtain ⟨z0, z1, z2, z3, z4, z5, z6⟩ := HA.out.2.2.2.2.1
      obtain ⟨f0, f1, f2, f3, f4, f5, f6⟩ := HA.out.2.2.2.2.2.1
      go_wp2
      (try rw [Exit.noGoto_ret])
      (try simp only [Exit.inBlock, Exit.then])
      refine bodyPost_ret (v := .tuple #[.agg #[.int .i64 a.fr, .int .i64 a.cn, .int .i64 a.sm, .int .i64 a.mn, .int .i64 a.mx, .int .i64 a.fi, .int .i64 a.la], .int .i64 0]) ?_ rfl ⟨?_, ?_⟩
      · rw [results_cell_tmp rfl]
        go_simp
      · have e := HD.out
        rw [List.drop_eq_nil_of_le (by rw [List.length_map, HL.out]; omega)] at e
        obtain ⟨fr, cn, sm, mn, mx, fi, la⟩ := a
        injection e with e1 e2
        injection e1 with e1 e3 e4 e5 e6 e7 e8
        subst e1 e2 e3 e4 e5 e6 e7 e8
        rfl
      · exact below_set HA.out.2.2.2.2.2.2 (Nat.le_refl _) _ _ _ _ _ _ _
end Go.Proofs.YtoccmklbjabaaaaDoor
