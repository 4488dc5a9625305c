/-
  Raw: what it returns of every row of at most a thousand samples; nothing that was there is written.
  Raw at every row of at most a thousand samples, at every tier.
  Down: what it returns of every row of at most a thousand windows; nothing that was there is written.
  Down at every row of at most a thousand windows, at every tier.
-/
import Derived.Test.YtepancmkopifpaaGreatDoorTRow
namespace Go.Proofs.YtepancmkopifpaaGreatDoor
open Go.RowKit
attribute [local go_sem ↓] Go.wp_at_zero Go.wp_at_succ
set_option linter.unusedVariables false

theorem all_map {f : Int} {s : Int × Int} {r : List (Int × Int)} {c : Nat} {x : Ag × Int} (h : all f (s.2 :: (r.take c).map (·.2)) = x) : all f (((s :: r).take (c + 1)).map (·.2)) = x := by
  rw [List.take_succ_cons, List.map_cons]; exact h
theorem cnt_cons {e : Int} {s : Int × Int} {r : List (Int × Int)} {c : Nat} (h : s.1 < e) (hc : cnt e r = c) : cnt e (s :: r) = c + 1 := by
  show (if s.1 < e then cnt e r + 1 else 0) = c + 1
  rw [if_pos h, hc]

/-- What Raw's loop holds. -/
structure RawInv (w wr : World) (k : Int) (n b off m cap : Nat) (out : List Ag) (r : List (Int × Int)) (v : Value) (R : List Ag × Int) : Prop where
  len : r.length = m
  hcap : m ≤ cap
  hmax : cap ≤ maxLen
  samps : Samps w (some ⟨b, off, none⟩) r
  rise : Rise r
  says : R = rawOn k out r
  room : out.length + m ≤ n
  own : wr.ownsRow w.heap.size 50 7 v out.length (aggV out)
  ok : ∀ a ∈ out, a.ok
  below : Below w.heap.size w wr

set_option maxRecDepth 100000 in
set_option maxHeartbeats 1000000 in
theorem raw_in (b off n cap : Nat) (l : List (Int × Int)) (k : Int) (w : World) (hl : l.length = n) (hS : Samps w (some ⟨b, off, none⟩) l) (hc : n ≤ cap) (hm : cap ≤ maxLen) (hk : coarse k) (hr : Rise l) (hw : Wid w) (hn : n ≤ 1000) :
    Calls Tryz.prog 67 #[.slice (some ⟨b, off, none⟩) n cap, .int .i64 k] w fun e w' => ∃ A cap', e = .returned (.tuple #[.slice A (rawOn k [] l).1.length cap', .int .i64 (rawOn k [] l).2]) ∧ Below w.heap.size w w' ∧ RowOf w' A (rawOn k [] l).1.length cap' (rawOn k [] l).1 := by
  have hk64 : In64 k := by unfold coarse at hk; unfold In64; omega
  have m0 := fun w => coarse_any k w hk64
  rw [decide_eq_true hk] at m0
  have M0 := Lib.hid m0
  have m1 := fun w (h : Samps w (some ⟨b, off, none⟩) l) => rising_any hl h hc hm
  rw [decide_eq_true hr] at m1
  have M1 := Lib.hid m1
  obtain ⟨R, hR⟩ : ∃ R, rawOn k [] l = R := ⟨_, rfl⟩
  rw [hR]
  have HSTART : Hid (∀ wr, Below w.heap.size w wr → RawInv w wr k n b off n cap [] l (.slice none 0 0) R) := Lib.hid (fun wr hb => ⟨hl, hc, hm, hS, hr, hR.symm, by simp, World.ownsRow_nil _ _ _ _, by simp, hb⟩)
  have HS := Lib.hid hS
  have HK := Lib.hid hk
  have HK64 := Lib.hid hk64
  have HW := Lib.hid hw
  clear m0 m1 hR hS hk hr hw hl hm hc hk64
  go_enter Tryz.func67, Tryz.ntmps67
  go_wp2
  go_step3
  go_wp2_with fail
  refine (M0.out _).mono ?_
  rintro e w2 ⟨rfl, rfl⟩
  go_wp2_with fail
  refine (M1.out _ HS.out).mono ?_
  rintro e w2 ⟨rfl, hb2⟩
  have HB2 := Lib.hid hb2
  clear hb2
  go_wp2
  go_step3
  go_wp2
  go_loopw [6, 7, 8] (fun so sc sr wr => ∃ (out : List Ag) (r : List (Int × Int)) (off' m cap' : Nat), sc = .int .i64 0 ∧ sr = .slice (some ⟨b, off', none⟩) m cap' ∧ Hid (RawInv w wr k n b off' m cap' out r so R)) (fun _ _ sr _ => lenOf sr)
  case atStart => exact ⟨[], l, off, n, cap, rfl, rfl, Lib.hid (HSTART.out _ HB2.out)⟩
  case round =>
    obtain ⟨out, r, off', m, cap', rfl, rfl, HI⟩ := hrel
    have hm0 : m ≤ cap' ∧ cap' ≤ 2 ^ 63 - 1 := ⟨HI.out.hcap, HI.out.hmax⟩
    by_cases h0 : 0 < m
    · obtain ⟨s0, r1, rfl⟩ : ∃ s0 r1, r = s0 :: r1 := by
        match r, HI.out.len with
        | [], e => simp at e; omega
        | s0 :: r1, _ => exact ⟨s0, r1, rfl⟩
      obtain ⟨t0, v0⟩ := s0
      have hbe : Ag.begin_ t0 := rise_head HI.out.rise
      have hSw := HI.out.samps.below HI.out.below
      have ht64 := (HI.out.samps.1 (t0, v0) (by simp)).1
      have hflr := flr_le HK.out hbe
      have hfb := flr_begin HK.out hbe
      have hwb := coarse_wid HK.out
      have c0 : wr.cell? ⟨b, off', none⟩ = some (.int .i64 t0) := by
        obtain ⟨b', o', e, hcc⟩ := hSw.2 (by simp)
        injection e with e
        injection e with e1 e2
        subst e1 e2
        exact (hcc 0 (by simp)).1
      have m3 := fun w hw => floor_any t0 k w ht64 HK64.out hw
      have m4 := fun w hw => width_any k w HK64.out hw
      have hcn := rfl (a := cnt (flr t0 k + wid k) r1)
      generalize hc1 : cnt (flr t0 k + wid k) r1 = c at hcn
      have hcc := cnt_cons (s := (t0, v0)) hflr.2.2 hc1
      have hcle := cnt_le (flr t0 k + wid k) r1
      rw [hc1] at hcle
      have hlen := HI.out.len
      rw [List.length_cons] at hlen
      have m5 := below_in b off' m cap' ((t0, v0) :: r1) (flr t0 k + wid k) wr HI.out.len hSw.1 HI.out.hcap HI.out.hmax (by
        obtain ⟨b', o', e, hcc⟩ := hSw.2 (by simp)
        injection e with e
        injection e with e1 e2
        subst e1 e2
        intro j hj
        exact hcc j (by rw [HI.out.len]; exact hj))
      rw [hcc] at m5
      have hx := rfl (a := all (flr t0 k) (v0 :: (r1.take c).map (·.2)))
      generalize hx1 : all (flr t0 k) (v0 :: (r1.take c).map (·.2)) = x at hx
      have hsay := rawOn_cons k out (t0, v0) r1 hc1 hx1
      have hxok := all_ok (flr t0 k) hfb (v0 :: (r1.take c).map (·.2)) (fun v hv => by
        rw [List.mem_cons] at hv
        rcases hv with rfl | hv
        · exact (HI.out.samps.1 (t0, v) (by simp)).2
        · obtain ⟨s, hs, rfl⟩ := List.mem_map.1 hv
          exact (HI.out.samps.1 s (by simp [List.mem_of_mem_take hs])).2)
      rw [hx1] at hxok
      have m6 := fun w (h : Samps w (some ⟨b, off', none⟩) (((t0, v0) :: r1).take (c + 1))) => all_any (len := c + 1) (cap := cap') (flr t0 k) (by rw [List.length_take, HI.out.len]; omega) (by omega) h (by omega) HI.out.hmax hfb
      rw [all_map (s := (t0, v0)) hx1] at m6
      obtain ⟨xa, xc⟩ := x
      simp only at m6 hsay hxok
      generalize flr t0 k = F at *
      generalize hV : wid k = V at *
      have hadd : IntKind.i64.wrap (F + V) = F + V := by
        unfold Ag.begin_ at hfb
        rw [IntKind.wrap_i64]; omega
      obtain ⟨E, hE⟩ : ∃ E, F + V = E := ⟨_, rfl⟩
      rw [hE] at m5
      replace hadd : IntKind.i64.wrap (F + V) = E := hadd.trans hE
      obtain ⟨C, hC⟩ : ∃ C, c + 1 = C := ⟨_, rfl⟩
      rw [hC] at m5 m6
      have hC1 : 1 ≤ C := by omega
      have hCm : C ≤ m := by omega
      have HSAY := Lib.hid hsay
      have HXOK := Lib.hid hxok
      have M3 := Lib.hid m3
      have M4 := Lib.hid m4
      have M5 := Lib.hid m5
      have M6 := Lib.hid m6
      have HCC := Lib.hid hC
      have HSUB : Hid (∀ w', Below w.heap.size w w' → Samps w' (some ⟨b, off', none⟩) (((t0, v0) :: r1).take C)) := Lib.hid (fun w' hb => (HI.out.samps.below hb).sub C)
      have HWID : Hid (∀ w', Below w.heap.size w w' → Wid w') := Lib.hid (fun w' hb => HW.out.below hb)
      have HLEN := Lib.hid hlen
      clear m3 m4 m5 m6 hsay hxok hC hlen hcle hcc hcn hc1 hx hx1 hSw hbe hV hfb hflr hwb ht64 hE
      unfold Ag.val at M6
      have i0 : (0 : Int) < (m : Int) := by omega
      have i1 : (C : Int) ≤ (cap' : Int) := by omega
      have i2 : (0 : Int) ≤ (C : Int) := by omega
      have i3 : (C : Int) ≤ (m : Int) := by omega
      go_wp2_with fail
      refine (M3.out _ (HWID.out _ HI.out.below)).mono ?_
      rintro e w3 ⟨rfl, rfl⟩
      go_wp2_with fail
      refine (M4.out _ (HWID.out _ HI.out.below)).mono ?_
      rintro e w3 ⟨rfl, rfl⟩
      go_wp2_with fail
      refine M5.out.mono ?_
      rintro e w3 ⟨rfl, rfl⟩
      clear c0
      have HB3 : Hid (Below w.heap.size w (wr.alloc (.cells #[.int .i64 0, .int .i64 0, .int .i64 0, .int .i64 0, .int .i64 0, .int .i64 0, .int .i64 0] 50))) := Lib.hid (past_alloc HI.out.below _)
      have HH3 : Hid (Holds (wr.alloc (.cells #[.int .i64 0, .int .i64 0, .int .i64 0, .int .i64 0, .int .i64 0, .int .i64 0, .int .i64 0] 50)) wr.heap.size Ag.zero ∧ Free (wr.alloc (.cells #[.int .i64 0, .int .i64 0, .int .i64 0, .int .i64 0, .int .i64 0, .int .i64 0, .int .i64 0] 50)) wr.heap.size ∧
          (wr.alloc (.cells #[.int .i64 0, .int .i64 0, .int .i64 0, .int .i64 0, .int .i64 0, .int .i64 0, .int .i64 0] 50)).ownsRow w.heap.size 50 7 u6 out.length (aggV out) ∧ w.heap.size ≤ wr.heap.size ∧ wr.heap.size < (wr.alloc (.cells #[.int .i64 0, .int .i64 0, .int .i64 0, .int .i64 0, .int .i64 0, .int .i64 0, .int .i64 0] 50)).heap.size ∧ (some wr.heap.size ≠ u6.ownBlock)) := Lib.hid (by
        refine ⟨?_, ?_, own7_below HI.out.own (past_alloc (Below.refl _ _) _), HI.out.below.size, by simp, fun e => ?_⟩
        · unfold Holds Ag.zero
          simp
        · unfold Free
          simp
        · have := (HI.out.own.lt _ e.symm).2
          omega)
      go_upto_region 10 with fail
      generalize wr.alloc (.cells #[.int .i64 0, .int .i64 0, .int .i64 0, .int .i64 0, .int .i64 0, .int .i64 0, .int .i64 0] 50) = ws at *
      generalize wr.heap.size = g at *
      go_wp2_with fail
      refine (M6.out _ (HSUB.out _ HB3.out)).mono ?_
      rintro e wt ⟨rfl, hbt⟩
      have HZ : Hid (Holds (((((((wt.setCell ⟨g, 0, none⟩ (.int .i64 xa.fr)).setCell ⟨g, 1, none⟩ (.int .i64 xa.cn)).setCell ⟨g, 2, none⟩ (.int .i64 xa.sm)).setCell ⟨g, 3, none⟩ (.int .i64 xa.mn)).setCell ⟨g, 4, none⟩ (.int .i64 xa.mx)).setCell ⟨g, 5, none⟩ (.int .i64 xa.fi)).setCell ⟨g, 6, none⟩ (.int .i64 xa.la)) g xa ∧ (((((((wt.setCell ⟨g, 0, none⟩ (.int .i64 xa.fr)).setCell ⟨g, 1, none⟩ (.int .i64 xa.cn)).setCell ⟨g, 2, none⟩ (.int .i64 xa.sm)).setCell ⟨g, 3, none⟩ (.int .i64 xa.mn)).setCell ⟨g, 4, none⟩ (.int .i64 xa.mx)).setCell ⟨g, 5, none⟩ (.int .i64 xa.fi)).setCell ⟨g, 6, none⟩ (.int .i64 xa.la)).ownsRow w.heap.size 50 7 u6 out.length (aggV out) ∧ Below w.heap.size w (((((((wt.setCell ⟨g, 0, none⟩ (.int .i64 xa.fr)).setCell ⟨g, 1, none⟩ (.int .i64 xa.cn)).setCell ⟨g, 2, none⟩ (.int .i64 xa.sm)).setCell ⟨g, 3, none⟩ (.int .i64 xa.mn)).setCell ⟨g, 4, none⟩ (.int .i64 xa.mx)).setCell ⟨g, 5, none⟩ (.int .i64 xa.fi)).setCell ⟨g, 6, none⟩ (.int .i64 xa.la))) := Lib.hid (by
        obtain ⟨z1, z2, z3, z4, z5, z6'⟩ := HH3.out
        have z6 := z6'.symm
        have hbw := past HB3.out hbt
        refine ⟨holds_set (z1.below hbt), ?_, below_set hbw z4 _ _ _ _ _ _ _⟩
        exact ownsRow_setCell_other (ownsRow_setCell_other (ownsRow_setCell_other (ownsRow_setCell_other (ownsRow_setCell_other (ownsRow_setCell_other (ownsRow_setCell_other (own7_below z3 hbt) z6 _) z6 _) z6 _) z6 _) z6 _) z6 _) z6 _)
      obtain ⟨z0, z1, z2, z3, z4, z5, z6⟩ := HH3.out.1.below hbt
      obtain ⟨f0, f1, f2, f3, f4, f5, f6⟩ := HH3.out.2.1.below HH3.out.2.2.2.2.1 hbt
      have NE := Lib.hid HH3.out.2.2.2.2.2
      clear hbt HH3 HB3 M3 M4 M5 M6 HSUB
      go_upto_region 11 with fail
      clear z0 z1 z2 z3 z4 z5 z6 f0 f1 f2 f3 f4 f5 f6
      generalize ((((((wt.setCell ⟨g, 0, none⟩ (.int .i64 xa.fr)).setCell ⟨g, 1, none⟩ (.int .i64 xa.cn)).setCell ⟨g, 2, none⟩ (.int .i64 xa.sm)).setCell ⟨g, 3, none⟩ (.int .i64 xa.mn)).setCell ⟨g, 4, none⟩ (.int .i64 xa.mx)).setCell ⟨g, 5, none⟩ (.int .i64 xa.fi)).setCell ⟨g, 6, none⟩ (.int .i64 xa.la) = wz at *
      by_cases hz : xc = 0
      case neg =>
        have HN : Hid (R = ([], xc)) := Lib.hid (by rw [HI.out.says, HSAY.out, if_neg hz])
        have hz' : (xc == 0) = false := by simpa using hz
        go_wp2
        (try rw [Exit.noGoto_ret])
        go_ret2
        refine ⟨none, 0, ?_, HZ.out.2.2, ?_⟩
        · rw [HN.out]; rfl
        · rw [HN.out]; exact ⟨rfl, ⟨by simp, fun h => absurd h (by simp)⟩, Nat.le_refl _, by unfold maxLen; omega, fun _ => rfl⟩
      have HN : Hid (R = rawOn k (out ++ [xa]) (r1.drop c)) := Lib.hid (by rw [HI.out.says, HSAY.out, if_pos hz])
      subst hz
      obtain ⟨d0, d1, d2, d3, d4, d5, d6⟩ := HZ.out.1
      obtain ⟨w9, hw9⟩ : ∃ w9, w9 = wz.alloc (.cells #[.int .i64 xa.fr, .int .i64 xa.cn, .int .i64 xa.sm, .int .i64 xa.mn, .int .i64 xa.mx, .int .i64 xa.fi, .int .i64 xa.la] 50) := ⟨_, rfl⟩
      have hB9 : Below wz.heap.size wz w9 := by rw [hw9]; exact past_alloc (Below.refl _ _) _
      have W9 := Lib.hid hw9
      have O9 : Hid (w9.ownsRow w.heap.size 50 7 u6 out.length (aggV out)) := Lib.hid (own7_below HZ.out.2.1 hB9)
      have N9 : Hid (∀ j u, xa.cells[j]? = some u → w9.cell? ((⟨wz.heap.size, 0, none⟩ : Addr).add j) = some u) := Lib.hid (Holds.news (by rw [hw9]; exact Holds.new wz xa))
      have Z9 : Hid (w.heap.size ≤ w9.heap.size) := Lib.hid (Nat.le_trans HZ.out.2.2.size hB9.size)
      have BB : Hid (Below w.heap.size w w9) := Lib.hid (past HZ.out.2.2 hB9)
      have hroom : out.length + 1 ≤ 1000 := by have := HI.out.room; omega
      clear hw9 hB9
      go_upto_region 13 with fail
      obtain ⟨i0', hi, hz0, hz1, hz2⟩ := info_parts Tryz.info50
      go_wp2_with (at_builtin; rw [← W9.out]; refine wpList_append_lies _ rfl _ _ 23 rfl w.heap.size 50 i0' (.agg #[.int .i64 0, .int .i64 0, .int .i64 0, .int .i64 0, .int .i64 0, .int .i64 0, .int .i64 0]) 7 56 Tryz.underlying23 hi hz0 hz1 hz2 rfl (by decide) u6 out.length (aggV out) rfl O9.out ⟨wz.heap.size, 0, none⟩ 1 1 xa.cells rfl rfl N9.out (cells_one xa) (by decide) (by unfold maxLen; omega) (by omega) Z9.out _ rfl ?_)
      intro ga ca wa hown hgrow hat hltg
      have HNEW : Hid (wa.ownsRow w.heap.size 50 7 (.slice (some ⟨ga, 0, none⟩) (out.length + 1) ca) (out.length + 1) (aggV (out ++ [xa])) ∧ Below w.heap.size w wa) := Lib.hid (by
        refine ⟨?_, BB.out.grown hgrow Z9.out (fun k h => (O9.out.lt k h).1)⟩
        rw [aggV_append, aggV_one]
        exact hown)
      clear hown hgrow hat hltg d0 d1 d2 d3 d4 d5 d6 W9 O9 N9 Z9 BB
      have HNEXT : Hid (∀ off2 cap2, m - C ≤ cap2 → cap2 ≤ maxLen → (C < m → off2 = off' + C * 2) → RawInv w wa k n b off2 (m - C) cap2 (out ++ [xa]) (r1.drop c) (.slice (some ⟨ga, 0, none⟩) (out.length + 1) ca) R) := Lib.hid (fun off2 cap2 h1 h2 h3 => by
        have hCC := HCC.out
        have hLEN := HLEN.out
        have hdl : (r1.drop c).length = m - C := by rw [List.length_drop]; omega
        have hsam : Samps w (some ⟨b, off' + C * 2, none⟩) (r1.drop c) := by
          have := HI.out.samps.rest C
          rw [← hCC, List.drop_succ_cons] at this
          rw [← hCC]
          exact this
        refine ⟨hdl, h1, h2, ?_, rise_drop c (rise_tail HI.out.rise), HN.out, ?_, ?_, ?_, HNEW.out.2⟩
        · by_cases hlt : C < m
          · rw [h3 hlt]; exact hsam
          · exact hsam.nil (by omega)
        · have := HI.out.room
          rw [List.length_append]
          show out.length + 1 + (m - C) ≤ n
          omega
        · rw [List.length_append]
          exact HNEW.out.1
        · intro a ha
          rw [List.mem_append, List.mem_singleton] at ha
          rcases ha with ha | rfl
          · exact HI.out.ok a ha
          · exact HXOK.out)
      have HMX := Lib.hid HI.out.hmax
      have HCP := Lib.hid HI.out.hcap
      by_cases hcc : C = cap'
      · obtain rfl : m = C := by omega
        obtain rfl : cap' = m := hcc.symm
        clear hcc
        go_wp2
        go_roundw
        case rel => exact ⟨out ++ [xa], r1.drop c, off', 0, 0, rfl, by simp, Lib.hid (by
          have := HNEXT.out off' 0 (by omega) (by unfold maxLen; omega) (fun h => absurd h (by omega))
          rw [Nat.sub_self] at this
          exact this)⟩
        case measure => simp [lenOf]; omega
      · have hcl : C < cap' := by omega
        have hci : (C : Int) < (cap' : Int) := by omega
        go_wp2
        go_roundw
        case rel => exact ⟨out ++ [xa], r1.drop c, off' + C * 2, m - C, cap' - C, rfl, rfl, Lib.hid (HNEXT.out _ _ (by omega) (by have := HMX.out; unfold maxLen at *; omega) (fun _ => rfl))⟩
        case measure => simp [lenOf]; omega
    · obtain rfl : m = 0 := by omega
      have hr0 : r = [] := List.length_eq_zero_iff.1 HI.out.len
      obtain ⟨A, ca, hv, hrow⟩ := rowOf_own HI.out.own HI.out.ok
      have HN : Hid (R = (out, 0)) := Lib.hid (by rw [HI.out.says, hr0, rawOn])
      have HV := Lib.hid hv
      have HROW := Lib.hid hrow
      clear hr0 hv hrow
      go_wp2
      (try rw [Exit.noGoto_ret])
      go_ret2
      refine ⟨A, ca, ?_, HI.out.below, ?_⟩
      · rw [HN.out, HV.out]; rfl
      · rw [HN.out]; exact HROW.out
end Go.Proofs.YtepancmkopifpaaGreatDoor
namespace Go.Proofs.YtepancmkopifpaaGreatDoor
open Go.RowKit
set_option linter.unusedVariables false

theorem rowOf_nil (w : World) : RowOf w none 0 0 [] := ⟨rfl, ⟨by simp, fun h => absurd h (by simp)⟩, Nat.le_refl _, by unfold maxLen; omega, fun _ => rfl⟩

set_option maxRecDepth 100000 in
theorem raw_none (A : Option Addr) (cap : Nat) (k : Int) (w : World) (hk : coarse k) : Calls Tryz.prog 67 #[.slice A 0 cap, .int .i64 k] w fun e w' => e = .returned (.tuple #[.slice none 0 0, .int .i64 0]) ∧ Below w.heap.size w w' := by
  have hk64 : In64 k := by unfold coarse at hk; unfold In64; omega
  have m0 := fun w => coarse_any k w hk64
  rw [decide_eq_true hk] at m0
  have M0 := Lib.hid m0
  have M1 := Lib.hid (fun w => rising_none A cap w)
  clear m0 hk hk64
  go_enter Tryz.func67, Tryz.ntmps67
  go_wp2
  go_step3
  go_wp2_with fail
  refine (M0.out _).mono ?_
  rintro e w2 ⟨rfl, rfl⟩
  go_wp2_with fail
  refine (M1.out _).mono ?_
  rintro e w2 ⟨rfl, hb2⟩
  have HB2 := Lib.hid hb2
  clear hb2
  go_wp2
  go_step3
  go_wp2
  refine wp_loop_rounds 1 ?_
  rw [rounds_succ]
  go_wp2
  (try rw [Exit.noGoto_ret])
  go_ret2
  exact ⟨rfl, HB2.out⟩

set_option maxRecDepth 100000 in
theorem raw_tier (A : Option Addr) (len cap : Nat) (k : Int) (w : World) (hk64 : In64 k) (hk : ¬ coarse k) : Calls Tryz.prog 67 #[.slice A len cap, .int .i64 k] w fun e w' => e = .returned (.tuple #[.slice none 0 0, .int .i64 1]) ∧ Below w.heap.size w w' := by
  have m0 := fun w => coarse_any k w hk64
  rw [decide_eq_false hk] at m0
  have M0 := Lib.hid m0
  clear m0 hk hk64
  go_enter Tryz.func67, Tryz.ntmps67
  go_wp2
  go_step3
  go_wp2_with fail
  refine (M0.out _).mono ?_
  rintro e w2 ⟨rfl, rfl⟩
  go_wp2
  (try rw [Exit.noGoto_ret])
  go_ret2
  exact ⟨rfl, Below.refl _ _⟩

set_option maxRecDepth 100000 in
theorem raw_fall {A : Option Addr} {len cap : Nat} {l : List (Int × Int)} {w : World} (k : Int) (hl : l.length = len) (hS : Samps w A l) (hc : len ≤ cap) (hm : cap ≤ maxLen) (hk : coarse k) (hr : ¬ Rise l) : Calls Tryz.prog 67 #[.slice A len cap, .int .i64 k] w fun e w' => e = .returned (.tuple #[.slice none 0 0, .int .i64 1]) ∧ Below w.heap.size w w' := by
  have hk64 : In64 k := by unfold coarse at hk; unfold In64; omega
  have m0 := fun w => coarse_any k w hk64
  rw [decide_eq_true hk] at m0
  have M0 := Lib.hid m0
  have m1 := rising_any hl hS hc hm
  rw [decide_eq_false hr] at m1
  have M1 := Lib.hid m1
  clear m0 m1 hk hk64 hr hl hS hc hm
  go_enter Tryz.func67, Tryz.ntmps67
  go_wp2
  go_step3
  go_wp2_with fail
  refine (M0.out _).mono ?_
  rintro e w2 ⟨rfl, rfl⟩
  go_wp2_with fail
  refine M1.out.mono ?_
  rintro e w2 ⟨rfl, hb2⟩
  go_wp2
  (try rw [Exit.noGoto_ret])
  go_ret2
  exact ⟨rfl, hb2⟩

/-- What a call of Raw or Down leaves: the row, its windows, its code. -/
def Gives (w : World) (R : List Ag × Int) : Ending → World → Prop := fun e w' => ∃ A cap, e = .returned (.tuple #[.slice A R.1.length cap, .int .i64 R.2]) ∧ Below w.heap.size w w' ∧ RowOf w' A R.1.length cap R.1
theorem gives_none {w : World} {c : Int} {e : Ending} {w' : World} (h : e = .returned (.tuple #[.slice none 0 0, .int .i64 c]) ∧ Below w.heap.size w w') : Gives w ([], c) e w' :=
  ⟨none, 0, h.1, h.2, rowOf_nil w'⟩

theorem raw_any {A : Option Addr} {len cap : Nat} {l : List (Int × Int)} {w : World} (k : Int) (hl : l.length = len) (hS : Samps w A l) (hc : len ≤ cap) (hm : cap ≤ maxLen) (hk : In64 k) (hw : Wid w) (hn : len ≤ 1000) :
    Calls Tryz.prog 67 #[.slice A len cap, .int .i64 k] w (Gives w (raw l k)) := by
  unfold raw
  by_cases hco : coarse k
  · by_cases hr : Rise l
    · rw [if_pos ⟨hco, hr⟩]
      by_cases h0 : 0 < len
      · obtain ⟨b, off, rfl, hcell⟩ := hS.2 (by omega)
        exact raw_in b off len cap l k w hl hS hc hm hco hr hw hn
      · obtain rfl : len = 0 := by omega
        obtain rfl : l = [] := List.length_eq_zero_iff.1 hl
        rw [rawOn]
        exact (raw_none A cap k w hco).mono fun _ _ h => gives_none h
    · rw [if_neg (fun h => hr h.2)]
      exact (raw_fall k hl hS hc hm hco hr).mono fun _ _ h => gives_none h
  · rw [if_neg (fun h => hco h.1)]
    exact (raw_tier A len cap k w hk hco).mono fun _ _ h => gives_none h
end Go.Proofs.YtepancmkopifpaaGreatDoor
namespace Go.Proofs.YtepancmkopifpaaGreatDoor
open Go.RowKit
attribute [local go_sem ↓] Go.wp_at_zero Go.wp_at_succ
set_option linter.unusedVariables false

theorem aggV_set (a : Ag) : ∀ (l : List Ag) (j : Nat), j < l.length → ((((((((aggV l).set (j * 7) (.int .i64 a.fr)).set (j * 7 + 1) (.int .i64 a.cn)).set (j * 7 + 2) (.int .i64 a.sm)).set (j * 7 + 3) (.int .i64 a.mn)).set (j * 7 + 4) (.int .i64 a.mx)).set (j * 7 + 5) (.int .i64 a.fi)).set (j * 7 + 6) (.int .i64 a.la)) = aggV (l.set j a)
  | [], j, h => absurd h (by simp)
  | x :: r, 0, _ => by
    rw [List.set_cons_zero, aggV_cons, aggV_cons]
    rfl
  | x :: r, j + 1, h => by
    have ih := aggV_set a r j (by simpa using h)
    rw [List.set_cons_succ, aggV_cons, aggV_cons, ← ih]
    have e : ∀ i, (j + 1) * 7 + i = j * 7 + i + 1 + 1 + 1 + 1 + 1 + 1 + 1 := fun i => by omega
    rw [show (j + 1) * 7 = j * 7 + 1 + 1 + 1 + 1 + 1 + 1 + 1 by omega]
    show ((((((((Value.int .i64 x.fr :: .int .i64 x.cn :: .int .i64 x.sm :: .int .i64 x.mn :: .int .i64 x.mx :: .int .i64 x.fi :: .int .i64 x.la :: aggV r)).set _ _).set _ _).set _ _).set _ _).set _ _).set _ _).set _ _ = _
    rfl

theorem own7_form {w : World} {base n : Nat} {v : Value} {l : List Ag} (h : w.ownsRow base 50 7 v n (aggV l)) (h0 : 0 < n) :
    ∃ g cap, v = .slice (some ⟨g, 0, none⟩) n cap ∧ n ≤ cap ∧ cap ≤ maxLen ∧ base ≤ g ∧ g < w.heap.size ∧ ∀ j, j < n → HoldsAt w g (j * 7) (agAt l j) := by
  have hn : l.length = n := by have := h.1; rw [aggV_length] at this; omega
  rcases h.2 with ⟨e, e0⟩ | ⟨g, cap, cur, rfl, hbg, hh, h1, h2, _⟩
  · omega
  · refine ⟨g, cap, rfl, h1, h2, hbg, ?_, fun j hj => ?_⟩
    · rcases Nat.lt_or_ge g w.heap.size with hlt | hge
      · exact hlt
      · rw [Array.getElem?_eq_none hge] at hh; cases hh
    · have c : ∀ i, i < 7 → w.cell? ⟨g, j * 7 + i, none⟩ = (agAt l j).cells[i]? := fun i hi => by
        rw [h.cellAt (j * 7 + i) (by omega)]
        exact aggV_get l j i (by omega) hi
      exact ⟨c 0 (by decide), c 1 (by decide), c 2 (by decide), c 3 (by decide), c 4 (by decide), c 5 (by decide), c 6 (by decide)⟩
theorem agg_drop {l : List Ag} {j : Nat} (h : j < l.length) : l.drop j = agAt l j :: l.drop (j + 1) := by
  rw [List.drop_eq_getElem_cons h]
  congr 1
  simp [agAt, h]

theorem downOn_new {k : Int} {out : List Ag} {a : Ag} {r : List Ag} (h : ¬ (0 < out.length ∧ (agAt out (out.length - 1)).fr = flr a.fr k)) : downOn k out (a :: r) = downOn k (out ++ [a.at_ k]) r := by rw [downOn, if_neg h]
theorem downOn_join {k : Int} {out : List Ag} {a : Ag} {r : List Ag} {x : Ag × Int} (h : 0 < out.length ∧ (agAt out (out.length - 1)).fr = flr a.fr k) (hx : join (agAt out (out.length - 1)) (a.at_ k) = x) :
    downOn k out (a :: r) = if x.2 = 0 then downOn k (out.set (out.length - 1) x.1) r else ([], x.2) := by rw [downOn, if_pos h, hx]

theorem zero_new (w : World) : Holds (w.alloc (.cells #[.int .i64 0, .int .i64 0, .int .i64 0, .int .i64 0, .int .i64 0, .int .i64 0, .int .i64 0] 50)) w.heap.size Ag.zero ∧ Free (w.alloc (.cells #[.int .i64 0, .int .i64 0, .int .i64 0, .int .i64 0, .int .i64 0, .int .i64 0, .int .i64 0] 50)) w.heap.size ∧
    w.heap.size < (w.alloc (.cells #[.int .i64 0, .int .i64 0, .int .i64 0, .int .i64 0, .int .i64 0, .int .i64 0, .int .i64 0] 50)).heap.size := by
  refine ⟨?_, ?_, by simp⟩
  · unfold Holds Ag.zero
    simp
  · unfold Free
    simp

theorem below_set7 {w wr : World} {B g' o0 o1 o2 o3 o4 o5 o6 : Nat} {v0 v1 v2 v3 v4 v5 v6 : Value} (h : Below B w wr) (hg : B ≤ g') :
    Below B w (((((((wr.setCell ⟨g', o0, none⟩ v0).setCell ⟨g', o1, none⟩ v1).setCell ⟨g', o2, none⟩ v2).setCell ⟨g', o3, none⟩ v3).setCell ⟨g', o4, none⟩ v4).setCell ⟨g', o5, none⟩ v5).setCell ⟨g', o6, none⟩ v6) :=
  ((((((h.setCell hg _).setCell hg _).setCell hg _).setCell hg _).setCell hg _).setCell hg _).setCell hg _

/-- What Down's loop holds. -/
structure DownInv (w wr : World) (k : Int) (j : Nat) (l out : List Ag) (v : Value) (R : List Ag × Int) : Prop where
  says : R = downOn k out (l.drop j)
  room : out.length ≤ j
  own : wr.ownsRow w.heap.size 50 7 v out.length (aggV out)
  ok : ∀ a ∈ out, a.ok
  below : Below w.heap.size w wr

set_option maxRecDepth 100000 in
set_option maxHeartbeats 2000000 in
theorem down_in (b off n cap : Nat) (l : List Ag) (k : Int) (w : World) (hl : l.length = n) (h0 : 0 < n) (hS : Aggs w (some ⟨b, off, none⟩) l) (hc : n ≤ cap) (hm : cap ≤ maxLen) (hk : coarse k) (hr : Align l (k - 1)) (hw : Wid w) (hn : n ≤ 1000) :
    Calls Tryz.prog 70 #[.slice (some ⟨b, off, none⟩) n cap, .int .i64 k] w (Gives w (downOn k [] l)) := by
  have hk64 : In64 k ∧ In64 (k - 1) := by unfold coarse at hk; unfold In64; omega
  have hsub : IntKind.i64.wrap (k - 1) = k - 1 := by unfold coarse at hk; rw [IntKind.wrap_i64]; omega
  have m0 := fun w => coarse_any k w hk64.1
  rw [decide_eq_true hk] at m0
  have M0 := Lib.hid m0
  have m1 := aligned_any (k - 1) hl hS hc hm hk64.2 hw
  rw [decide_eq_true hr] at m1
  obtain ⟨k1, hk1⟩ : ∃ k1, k - 1 = k1 := ⟨_, rfl⟩
  replace hsub : IntKind.i64.wrap (k - 1) = k1 := hsub.trans hk1
  rw [hk1] at m1
  have M1 := Lib.hid m1
  obtain ⟨R, hR⟩ : ∃ R, downOn k [] l = R := ⟨_, rfl⟩
  rw [hR]
  unfold Gives
  have HSTART : Hid (∀ wr, Below w.heap.size w wr → DownInv w wr k 0 l [] (.slice none 0 0) R) := Lib.hid (fun wr hb => ⟨hR.symm, by simp, World.ownsRow_nil _ _ _ _, by simp, hb⟩)
  have HCELL : Hid (∀ j, j < n → HoldsAt w b (off + j * 7) (agAt l j)) := Lib.hid (by
    obtain ⟨b', o', e, hcc⟩ := hS.2 (by omega)
    injection e with e
    injection e with e1 e2
    subst e1 e2
    rw [hl] at hcc
    exact hcc)
  have HI : Hid (∀ a ∈ l, a.ok) := Lib.hid hS.1
  have HL := Lib.hid hl
  have HK := Lib.hid hk
  have HK64 := Lib.hid hk64.1
  have HW := Lib.hid hw
  unfold maxLen at hm
  have h0i : (0 : Int) < (n : Int) := by omega
  clear m0 m1 hR hS hk hr hw hl hk64 hk1
  go_enter Tryz.func70, Tryz.ntmps70
  go_wp2
  go_step3
  go_wp2_with fail
  refine (M0.out _).mono ?_
  rintro e w2 ⟨rfl, rfl⟩
  go_wp2_with fail
  refine M1.out.mono ?_
  rintro e w2 ⟨rfl, hb2⟩
  have HB2 := Lib.hid hb2
  clear hb2 hsub
  go_wp2
  go_step3
  go_wp2
  go_loopw [6, 24] (fun so si wr => ∃ (out : List Ag) (j : Nat), j ≤ n ∧ si = .int .i64 (j : Int) ∧ Hid (DownInv w wr k j l out so R)) (fun _ si _ => n - (intOf si).toNat)
  case atStart => exact ⟨[], 0, by omega, rfl, Lib.hid (HSTART.out _ HB2.out)⟩
  case round =>
    obtain ⟨out, j, hj, rfl, HD⟩ := hrel
    by_cases hlt : j < n
    · have hok := HI.out (agAt l j) (agg_mem (by rw [HL.out]; omega))
      have hh := (HCELL.out j hlt).below HD.out.below
      have hdr := agg_drop (l := l) (j := j) (by rw [HL.out]; omega)
      generalize agAt l j = a at hok hh hdr
      obtain ⟨c0, c1, c2, c3, c4, c5, c6⟩ := hh
      have m3 := fun w hw => floor_any a.fr k w hok.1 HK64.out hw
      have haok := at_ok (k := k) hok
      have hcap : (j : Int) < (n : Int) := by omega
      have hat : a.at_ k = ⟨flr a.fr k, a.cn, a.sm, a.mn, a.mx, a.fi, a.la⟩ := rfl
      generalize hF : flr a.fr k = F at m3 hat
      have M3 := Lib.hid m3
      have HB3 : Hid (Below w.heap.size w (wr.alloc (.cells #[.int .i64 a.fr, .int .i64 a.cn, .int .i64 a.sm, .int .i64 a.mn, .int .i64 a.mx, .int .i64 a.fi, .int .i64 a.la] 50))) := Lib.hid (past_alloc HD.out.below _)
      have HWID : Hid (∀ w', Below w.heap.size w w' → Wid w') := Lib.hid (fun w' hb => HW.out.below hb)
      go_wp2_with fail
      refine (M3.out _ (HWID.out _ HB3.out)).mono ?_
      rintro e w3 ⟨rfl, rfl⟩
      have HH3 : Hid (Holds (wr.alloc (.cells #[.int .i64 a.fr, .int .i64 a.cn, .int .i64 a.sm, .int .i64 a.mn, .int .i64 a.mx, .int .i64 a.fi, .int .i64 a.la] 50)) wr.heap.size a ∧ Free (wr.alloc (.cells #[.int .i64 a.fr, .int .i64 a.cn, .int .i64 a.sm, .int .i64 a.mn, .int .i64 a.mx, .int .i64 a.fi, .int .i64 a.la] 50)) wr.heap.size ∧ (wr.alloc (.cells #[.int .i64 a.fr, .int .i64 a.cn, .int .i64 a.sm, .int .i64 a.mn, .int .i64 a.mx, .int .i64 a.fi, .int .i64 a.la] 50)).ownsRow w.heap.size 50 7 u6 out.length (aggV out) ∧ w.heap.size ≤ wr.heap.size ∧ wr.heap.size < (wr.alloc (.cells #[.int .i64 a.fr, .int .i64 a.cn, .int .i64 a.sm, .int .i64 a.mn, .int .i64 a.mx, .int .i64 a.fi, .int .i64 a.la] 50)).heap.size ∧ (u6.ownBlock ≠ some wr.heap.size)) := Lib.hid (by
        refine ⟨Holds.new wr a, ?_, own7_below HD.out.own (past_alloc (Below.refl _ _) _), HD.out.below.size, by simp, fun e => ?_⟩
        · unfold Free
          simp
        · have := (HD.out.own.lt _ e).2
          omega)
      clear c0 c1 c2 c3 c4 c5 c6 M3 m3
      generalize wr.alloc (.cells #[.int .i64 a.fr, .int .i64 a.cn, .int .i64 a.sm, .int .i64 a.mn, .int .i64 a.mx, .int .i64 a.fi, .int .i64 a.la] 50) = ws at *
      generalize wr.heap.size = g8 at *
      have z0 := HH3.out.1.1
      have f0 := HH3.out.2.1.1
      go_upto_region 8 with fail
      clear z0 f0
      have HZ : Hid (Holds (ws.setCell ⟨g8, 0, none⟩ (.int .i64 F)) g8 (a.at_ k) ∧ (ws.setCell ⟨g8, 0, none⟩ (.int .i64 F)).ownsRow w.heap.size 50 7 u6 out.length (aggV out) ∧ Below w.heap.size w (ws.setCell ⟨g8, 0, none⟩ (.int .i64 F)) ∧ w.heap.size ≤ g8 ∧ u6.ownBlock ≠ some g8) := Lib.hid (by
        obtain ⟨⟨h0, h1, h2, h3, h4, h5, h6⟩, z2, z3, z4, z5, z6⟩ := HH3.out
        refine ⟨?_, ownsRow_setCell_other z3 z6 _, HB3.out.setCell z4 _, z4, z6⟩
        rw [hat]
        unfold Holds
        simp [go_sem, *])
      clear HH3 HB3
      generalize ws.setCell ⟨g8, 0, none⟩ (.int .i64 F) = wz at *
      have HSAY := Lib.hid (HD.out.says)
      have HDR := Lib.hid hdr
      have HFF := Lib.hid hF
      generalize hA : a.at_ k = A' at HZ haok hat
      have HAF : Hid (A'.fr = F) := Lib.hid (by rw [hat])
      have HAA := Lib.hid hA
      have HAOK := Lib.hid haok
      have HJ := Lib.hid hj
      have hroom : out.length + 1 ≤ 1000 := by have := HD.out.room; omega
      clear hdr hF hA haok hok hat
      by_cases hL : 0 < out.length
      case neg =>
        obtain rfl : out = [] := List.length_eq_zero_iff.1 (by omega)
        obtain ⟨A, ca, hv, hrow⟩ := rowOf_own HD.out.own HD.out.ok
        have HN : Hid (R = downOn k ([] ++ [A']) (l.drop (j + 1))) := Lib.hid (by rw [HSAY.out, HDR.out, downOn_new (fun h => absurd h.1 (by simp)), HAA.out])
        subst hv
        simp only [List.length_nil] at *
        clear hrow hL
        have z0 := HZ.out.1.1
        go_upto_region 9 with fail
        go_quiet (fail)
        clear z0
        have HY : Hid (Holds (wz.drewN nq) g8 A' ∧ (wz.drewN nq).ownsRow w.heap.size 50 7 (.slice A 0 ca) 0 (aggV []) ∧ Below w.heap.size w (wz.drewN nq)) := Lib.hid ⟨HZ.out.1.below (belowN _ _), own7_below HZ.out.2.1 (belowN _ _), past HZ.out.2.2.1 (belowN _ _)⟩
        generalize wz.drewN nq = wy at *
        obtain ⟨d0, d1, d2, d3, d4, d5, d6⟩ := HY.out.1
        obtain ⟨w9, hw9⟩ : ∃ w9, w9 = wy.alloc (.cells #[.int .i64 A'.fr, .int .i64 A'.cn, .int .i64 A'.sm, .int .i64 A'.mn, .int .i64 A'.mx, .int .i64 A'.fi, .int .i64 A'.la] 50) := ⟨_, rfl⟩
        have hB9 : Below wy.heap.size wy w9 := by rw [hw9]; exact past_alloc (Below.refl _ _) _
        have W9 := Lib.hid hw9
        have O9 : Hid (w9.ownsRow w.heap.size 50 7 (.slice A 0 ca) 0 (aggV [])) := Lib.hid (own7_below HY.out.2.1 hB9)
        have N9 : Hid (∀ j u, A'.cells[j]? = some u → w9.cell? ((⟨wy.heap.size, 0, none⟩ : Addr).add j) = some u) := Lib.hid (Holds.news (by rw [hw9]; exact Holds.new wy A'))
        have Z9 : Hid (w.heap.size ≤ w9.heap.size) := Lib.hid (Nat.le_trans HY.out.2.2.size hB9.size)
        have BB : Hid (Below w.heap.size w w9) := Lib.hid (past HY.out.2.2 hB9)
        clear hw9 hB9
        go_upto_region 10 with fail
        obtain ⟨i0', hi, hz0, hz1, hz2⟩ := info_parts Tryz.info50
        go_wp2_with (at_builtin; rw [← W9.out]; refine wpList_append_lies _ rfl _ _ 23 rfl w.heap.size 50 i0' (.agg #[.int .i64 0, .int .i64 0, .int .i64 0, .int .i64 0, .int .i64 0, .int .i64 0, .int .i64 0]) 7 56 Tryz.underlying23 hi hz0 hz1 hz2 rfl (by decide) (.slice A 0 ca) 0 (aggV []) rfl O9.out ⟨wy.heap.size, 0, none⟩ 1 1 A'.cells rfl rfl N9.out (cells_one A') (by decide) (by unfold maxLen; omega) (by omega) Z9.out _ rfl ?_)
        intro ga ca' wa hown hgrow hat hltg
        have HNEW : Hid (DownInv w wa k (j + 1) l ([] ++ [A']) (.slice (some ⟨ga, 0, none⟩) (0 + 1) ca') R) := Lib.hid (by
          refine ⟨HN.out, ?_, ?_, ?_, BB.out.grown hgrow Z9.out (fun k h => (O9.out.lt k h).1)⟩
          · have := HD.out.room
            rw [List.length_append]
            show [].length + 1 ≤ j + 1
            omega
          · rw [aggV_append, aggV_one, List.length_append]
            exact hown
          · intro x hx
            rw [List.mem_append, List.mem_singleton] at hx
            rcases hx with hx | rfl
            · exact HD.out.ok x hx
            · exact HAOK.out)
        clear hown hgrow hat hltg d0 d1 d2 d3 d4 d5 d6 W9 O9 N9 Z9 BB
        go_wp2
        go_roundw
        case rel => exact ⟨[] ++ [A'], j + 1, by omega, by go_num, HNEW⟩
        case measure => simp [intOf]; omega
      obtain ⟨g, ca, hv, hca, hcm, hwg, hgl, hgc⟩ := own7_form HZ.out.2.1 hL
      subst hv
      have hlast := hgc (out.length - 1) (by omega)
      have hlok := HD.out.ok (agAt out (out.length - 1)) (agg_mem (by omega))
      have hnew := downOn_new (k := k) (out := out) (a := a) (r := l.drop (j + 1))
      have hjoi := fun x => downOn_join (k := k) (out := out) (a := a) (r := l.drop (j + 1)) (x := x)
      have hL1 : (out.length : Int) - 1 < (out.length : Int) := by omega
      generalize hb : agAt out (out.length - 1) = b1 at hlast hlok hnew hjoi
      have i1 : (0 : Int) < (out.length : Int) := by omega
      have i3 : (0 : Int) ≤ (out.length : Int) - 1 := by omega
      have i5 : ((out.length : Int) - 1).toNat = out.length - 1 := by omega
      obtain ⟨q, hq⟩ : ∃ q, out.length - 1 = q := ⟨_, rfl⟩
      rw [hq] at hlast
      have i6 : IntKind.i64.wrap ((out.length : Int) - 1) = (q : Int) := by rw [IntKind.wrap_i64]; omega
      have i7 : decide ((q : Int) < 0) = false := decide_eq_false (by omega)
      have i8 : (q : Int) < (out.length : Int) := by omega
      have i9 : (0 : Int) ≤ (q : Int) := by omega
      have HQ := Lib.hid hq
      clear i3 i5 hL1
      have z0 := HZ.out.1.1
      rw [HAF.out] at z0
      have z1 := hlast.1
      by_cases hfr : b1.fr = F
      case neg =>
        have HN : Hid (R = downOn k (out ++ [A']) (l.drop (j + 1))) := Lib.hid (by rw [HSAY.out, HDR.out, hnew (fun h => hfr (h.2.trans HFF.out)), HAA.out])
        have hne : (b1.fr != F) = true := by simpa using hfr
        clear hnew hjoi hgc hb hfr hq
        go_upto_region 9 with fail
        go_quiet (fail)
        clear z0 z1 hlast
        have HY : Hid (Holds (wz.drewN nq) g8 A' ∧ (wz.drewN nq).ownsRow w.heap.size 50 7 (.slice (some ⟨g, 0, none⟩) out.length ca) out.length (aggV out) ∧ Below w.heap.size w (wz.drewN nq)) := Lib.hid ⟨HZ.out.1.below (belowN _ _), own7_below HZ.out.2.1 (belowN _ _), past HZ.out.2.2.1 (belowN _ _)⟩
        generalize wz.drewN nq = wy at *
        obtain ⟨d0, d1, d2, d3, d4, d5, d6⟩ := HY.out.1
        obtain ⟨w9, hw9⟩ : ∃ w9, w9 = wy.alloc (.cells #[.int .i64 A'.fr, .int .i64 A'.cn, .int .i64 A'.sm, .int .i64 A'.mn, .int .i64 A'.mx, .int .i64 A'.fi, .int .i64 A'.la] 50) := ⟨_, rfl⟩
        have hB9 : Below wy.heap.size wy w9 := by rw [hw9]; exact past_alloc (Below.refl _ _) _
        have W9 := Lib.hid hw9
        have O9 : Hid (w9.ownsRow w.heap.size 50 7 (.slice (some ⟨g, 0, none⟩) out.length ca) out.length (aggV out)) := Lib.hid (own7_below HY.out.2.1 hB9)
        have N9 : Hid (∀ j u, A'.cells[j]? = some u → w9.cell? ((⟨wy.heap.size, 0, none⟩ : Addr).add j) = some u) := Lib.hid (Holds.news (by rw [hw9]; exact Holds.new wy A'))
        have Z9 : Hid (w.heap.size ≤ w9.heap.size) := Lib.hid (Nat.le_trans HY.out.2.2.size hB9.size)
        have BB : Hid (Below w.heap.size w w9) := Lib.hid (past HY.out.2.2 hB9)
        clear hw9 hB9
        go_upto_region 10 with fail
        obtain ⟨i0', hi, hz0, hz1, hz2⟩ := info_parts Tryz.info50
        go_wp2_with (at_builtin; rw [← W9.out]; refine wpList_append_lies _ rfl _ _ 23 rfl w.heap.size 50 i0' (.agg #[.int .i64 0, .int .i64 0, .int .i64 0, .int .i64 0, .int .i64 0, .int .i64 0, .int .i64 0]) 7 56 Tryz.underlying23 hi hz0 hz1 hz2 rfl (by decide) (.slice (some ⟨g, 0, none⟩) out.length ca) out.length (aggV out) rfl O9.out ⟨wy.heap.size, 0, none⟩ 1 1 A'.cells rfl rfl N9.out (cells_one A') (by decide) (by unfold maxLen; omega) (by omega) Z9.out _ rfl ?_)
        intro ga ca' wa hown hgrow hat hltg
        have HNEW : Hid (DownInv w wa k (j + 1) l (out ++ [A']) (.slice (some ⟨ga, 0, none⟩) (out.length + 1) ca') R) := Lib.hid (by
          refine ⟨HN.out, ?_, ?_, ?_, BB.out.grown hgrow Z9.out (fun k h => (O9.out.lt k h).1)⟩
          · have := HD.out.room
            rw [List.length_append]
            show out.length + 1 ≤ j + 1
            omega
          · rw [aggV_append, aggV_one, List.length_append]
            exact hown
          · intro x hx
            rw [List.mem_append, List.mem_singleton] at hx
            rcases hx with hx | rfl
            · exact HD.out.ok x hx
            · exact HAOK.out)
        clear hown hgrow hat hltg d0 d1 d2 d3 d4 d5 d6 W9 O9 N9 Z9 BB
        go_wp2
        go_roundw
        case rel => exact ⟨out ++ [A'], j + 1, by omega, by go_num, HNEW⟩
        case measure => simp [intOf]; omega
      have hjk := join_ok hlok HAOK.out
      have m6 := fun w => join_any b1 A' w hlok HAOK.out
      have hsay := hjoi (join b1 A') ⟨hL, hfr.trans HFF.out.symm⟩ (by rw [HAA.out])
      generalize join b1 A' = x at hjk m6 hsay
      obtain ⟨ja, jc⟩ := x
      simp only at hjk m6 hsay
      unfold Ag.val at m6
      have M6 := Lib.hid m6
      have HJK := Lib.hid hjk
      have HS2 : Hid (R = if jc = 0 then downOn k (out.set q ja) (l.drop (j + 1)) else ([], jc)) := Lib.hid (by rw [HSAY.out, HDR.out, ← HQ.out]; exact hsay)
      rw [hfr] at z1
      have HLAST := Lib.hid hlast
      clear hnew hjoi hgc hb hfr hq hjk m6 hsay hlast
      go_upto_region 9 with fail
      go_quiet (fail)
      clear z0 z1 i7
      have HY : Hid (Holds (wz.drewN nq) g8 A' ∧ (wz.drewN nq).ownsRow w.heap.size 50 7 (.slice (some ⟨g, 0, none⟩) out.length ca) out.length (aggV out) ∧ Below w.heap.size w (wz.drewN nq) ∧ HoldsAt (wz.drewN nq) g (q * 7) b1) := Lib.hid ⟨HZ.out.1.below (belowN _ _), own7_below HZ.out.2.1 (belowN _ _), past HZ.out.2.2.1 (belowN _ _), HLAST.out.below (belowN _ _)⟩
      generalize wz.drewN nq = wy at *
      obtain ⟨d0, d1, d2, d3, d4, d5, d6⟩ := HY.out.1
      obtain ⟨e0, e1, e2, e3, e4, e5, e6⟩ := HY.out.2.2.2
      have HSK : Hid (∀ w', Below wy.heap.size wy w' → w'.cell? ⟨g, q * 7, none⟩ = some (.int .i64 b1.fr) ∧ w'.cell? ⟨g, q * 7 + 1, none⟩ = some (.int .i64 b1.cn) ∧ w'.cell? ⟨g, q * 7 + 2, none⟩ = some (.int .i64 b1.sm) ∧ w'.cell? ⟨g, q * 7 + 3, none⟩ = some (.int .i64 b1.mn) ∧ w'.cell? ⟨g, q * 7 + 4, none⟩ = some (.int .i64 b1.mx) ∧ w'.cell? ⟨g, q * 7 + 5, none⟩ = some (.int .i64 b1.fi) ∧ w'.cell? ⟨g, q * 7 + 6, none⟩ = some (.int .i64 b1.la) ∧ w'.cell? ⟨g8, 0, none⟩ = some (.int .i64 A'.fr) ∧ w'.cell? ⟨g8, 1, none⟩ = some (.int .i64 A'.cn) ∧ w'.cell? ⟨g8, 2, none⟩ = some (.int .i64 A'.sm) ∧ w'.cell? ⟨g8, 3, none⟩ = some (.int .i64 A'.mn) ∧ w'.cell? ⟨g8, 4, none⟩ = some (.int .i64 A'.mx) ∧ w'.cell? ⟨g8, 5, none⟩ = some (.int .i64 A'.fi) ∧ w'.cell? ⟨g8, 6, none⟩ = some (.int .i64 A'.la)) := Lib.hid (fun w' hb => by
        obtain ⟨e0, e1, e2, e3, e4, e5, e6⟩ := HY.out.2.2.2.below hb
        exact ⟨e0, e1, e2, e3, e4, e5, e6, HY.out.1.below hb⟩)
      go_upto_region 11 with fail
      have hlt8 : g8 < wy.heap.size := HY.out.1.lt
      have hltg : g < wy.heap.size := HY.out.2.2.2.lt
      have hne8 : g8 ≠ wy.heap.size := by omega
      have hneg : g ≠ wy.heap.size := by omega
      clear hgl
      go_region_with (first
          | (go_at_call 93; refine (M6.out _).mono ?_; rintro e wt ⟨rfl, hbt⟩
             first
               | (have hB : Below wy.heap.size wy wt := (belowN wy 1).trans hbt)
               | (have hbt' := (belowN (wy.alloc (.cells #[.int .i64 0, .int .i64 0, .int .i64 0, .int .i64 0, .int .i64 0, .int .i64 0, .int .i64 0] 50)) 1).trans hbt
                  have hB : Below wy.heap.size wy wt := past (past_alloc (Below.refl _ _) _) hbt'
                  have hz8 : Holds wt wy.heap.size Ag.zero := (zero_new wy).1.below hbt'
                  have hf8 : Free wt wy.heap.size := (zero_new wy).2.1.below (zero_new wy).2.2 hbt'
                  unfold Ag.zero at hz8
                  obtain ⟨z0, z1, z2, z3, z4, z5, z6⟩ := hz8
                  obtain ⟨f0, f1, f2, f3, f4, f5, f6⟩ := hf8)))
      all_goals first
        | (have HT : Hid (Holds (((((((wt.setCell ⟨wy.heap.size, 0, none⟩ (.int .i64 ja.fr)).setCell ⟨wy.heap.size, 1, none⟩ (.int .i64 ja.cn)).setCell ⟨wy.heap.size, 2, none⟩ (.int .i64 ja.sm)).setCell ⟨wy.heap.size, 3, none⟩ (.int .i64 ja.mn)).setCell ⟨wy.heap.size, 4, none⟩ (.int .i64 ja.mx)).setCell ⟨wy.heap.size, 5, none⟩ (.int .i64 ja.fi)).setCell ⟨wy.heap.size, 6, none⟩ (.int .i64 ja.la)) wy.heap.size ja ∧ (((((((wt.setCell ⟨wy.heap.size, 0, none⟩ (.int .i64 ja.fr)).setCell ⟨wy.heap.size, 1, none⟩ (.int .i64 ja.cn)).setCell ⟨wy.heap.size, 2, none⟩ (.int .i64 ja.sm)).setCell ⟨wy.heap.size, 3, none⟩ (.int .i64 ja.mn)).setCell ⟨wy.heap.size, 4, none⟩ (.int .i64 ja.mx)).setCell ⟨wy.heap.size, 5, none⟩ (.int .i64 ja.fi)).setCell ⟨wy.heap.size, 6, none⟩ (.int .i64 ja.la)).ownsRow w.heap.size 50 7 (.slice (some ⟨g, 0, none⟩) out.length ca) out.length (aggV out) ∧ Below w.heap.size w (((((((wt.setCell ⟨wy.heap.size, 0, none⟩ (.int .i64 ja.fr)).setCell ⟨wy.heap.size, 1, none⟩ (.int .i64 ja.cn)).setCell ⟨wy.heap.size, 2, none⟩ (.int .i64 ja.sm)).setCell ⟨wy.heap.size, 3, none⟩ (.int .i64 ja.mn)).setCell ⟨wy.heap.size, 4, none⟩ (.int .i64 ja.mx)).setCell ⟨wy.heap.size, 5, none⟩ (.int .i64 ja.fi)).setCell ⟨wy.heap.size, 6, none⟩ (.int .i64 ja.la)) ∧ w.heap.size ≤ g) := Lib.hid (by
             have hno : (Value.slice (some ⟨g, 0, none⟩) out.length ca).ownBlock ≠ some wy.heap.size := fun e => hneg (Option.some.inj e)
             refine ⟨holds_set (a0 := Ag.zero) ⟨z0, z1, z2, z3, z4, z5, z6⟩, ?_, below_set (past HY.out.2.2.1 hB) HY.out.2.2.1.size _ _ _ _ _ _ _, hwg⟩
             exact ownsRow_setCell_other (ownsRow_setCell_other (ownsRow_setCell_other (ownsRow_setCell_other (ownsRow_setCell_other (ownsRow_setCell_other (ownsRow_setCell_other (own7_below HY.out.2.1 hB) hno _) hno _) hno _) hno _) hno _) hno _) hno _)
           clear z0 z1 z2 z3 z4 z5 z6 f0 f1 f2 f3 f4 f5 f6 hbt hbt' hB d0 d1 d2 d3 d4 d5 d6 e0 e1 e2 e3 e4 e5 e6 hne8 hneg hlt8 hltg HSK HY M6
           generalize (((((((wt.setCell ⟨wy.heap.size, 0, none⟩ (.int .i64 ja.fr)).setCell ⟨wy.heap.size, 1, none⟩ (.int .i64 ja.cn)).setCell ⟨wy.heap.size, 2, none⟩ (.int .i64 ja.sm)).setCell ⟨wy.heap.size, 3, none⟩ (.int .i64 ja.mn)).setCell ⟨wy.heap.size, 4, none⟩ (.int .i64 ja.mx)).setCell ⟨wy.heap.size, 5, none⟩ (.int .i64 ja.fi)).setCell ⟨wy.heap.size, 6, none⟩ (.int .i64 ja.la)) = wq at *
           generalize wy.heap.size = g10 at *)
        | (have HT : Hid (Holds (wt.alloc (.cells #[.int .i64 ja.fr, .int .i64 ja.cn, .int .i64 ja.sm, .int .i64 ja.mn, .int .i64 ja.mx, .int .i64 ja.fi, .int .i64 ja.la] 50)) wt.heap.size ja ∧ (wt.alloc (.cells #[.int .i64 ja.fr, .int .i64 ja.cn, .int .i64 ja.sm, .int .i64 ja.mn, .int .i64 ja.mx, .int .i64 ja.fi, .int .i64 ja.la] 50)).ownsRow w.heap.size 50 7 (.slice (some ⟨g, 0, none⟩) out.length ca) out.length (aggV out) ∧ Below w.heap.size w (wt.alloc (.cells #[.int .i64 ja.fr, .int .i64 ja.cn, .int .i64 ja.sm, .int .i64 ja.mn, .int .i64 ja.mx, .int .i64 ja.fi, .int .i64 ja.la] 50)) ∧ w.heap.size ≤ g) := Lib.hid
             ⟨Holds.new wt ja, own7_below HY.out.2.1 (past_alloc hB _), past_alloc (past HY.out.2.2.1 hB) _, hwg⟩
           clear hbt hB d0 d1 d2 d3 d4 d5 d6 e0 e1 e2 e3 e4 e5 e6 hne8 hneg hlt8 hltg HSK HY M6
           generalize (wt.alloc (.cells #[.int .i64 ja.fr, .int .i64 ja.cn, .int .i64 ja.sm, .int .i64 ja.mn, .int .i64 ja.mx, .int .i64 ja.fi, .int .i64 ja.la] 50)) = wq at *
           generalize wt.heap.size = g10 at *)
      all_goals
        by_cases hz : jc = 0
        case neg =>
          have HN : Hid (R = ([], jc)) := Lib.hid (by rw [HS2.out, if_neg hz])
          have hz' : (jc == 0) = false := by simpa using hz
          go_wp2
          (try rw [Exit.noGoto_ret])
          go_ret2
          refine ⟨none, 0, ?_, HT.out.2.2.1, ?_⟩
          · rw [HN.out]; rfl
          · rw [HN.out]; exact rowOf_nil _
        have HN : Hid (R = downOn k (out.set q ja) (l.drop (j + 1))) := Lib.hid (by rw [HS2.out, if_pos hz])
        subst hz
        obtain ⟨d0, d1, d2, d3, d4, d5, d6⟩ := HT.out.1
        have HQ2 : Hid (q < out.length) := Lib.hid (by omega)
        obtain ⟨e0, e1, e2, e3, e4, e5, e6⟩ : HoldsAt wq g (q * 7) (agAt out q) := by
          obtain ⟨g', ca', e, _, _, _, _, hg⟩ := own7_form HT.out.2.1 hL
          injection e with e
          injection e with e
          injection e with e
          subst e
          exact hg q HQ2.out
        have f0 := HT.out.2.1.frozenAt (q * 7)
        have f1 := HT.out.2.1.frozenAt (q * 7 + 1)
        have f2 := HT.out.2.1.frozenAt (q * 7 + 2)
        have f3 := HT.out.2.1.frozenAt (q * 7 + 3)
        have f4 := HT.out.2.1.frozenAt (q * 7 + 4)
        have f5 := HT.out.2.1.frozenAt (q * 7 + 5)
        have f6 := HT.out.2.1.frozenAt (q * 7 + 6)
        have HNEW : Hid (DownInv w (((((((wq.setCell ⟨g, q * 7, none⟩ (.int .i64 ja.fr)).setCell ⟨g, q * 7 + 1, none⟩ (.int .i64 ja.cn)).setCell ⟨g, q * 7 + 2, none⟩ (.int .i64 ja.sm)).setCell ⟨g, q * 7 + 3, none⟩ (.int .i64 ja.mn)).setCell ⟨g, q * 7 + 4, none⟩ (.int .i64 ja.mx)).setCell ⟨g, q * 7 + 5, none⟩ (.int .i64 ja.fi)).setCell ⟨g, q * 7 + 6, none⟩ (.int .i64 ja.la)) k (j + 1) l (out.set q ja) (.slice (some ⟨g, 0, none⟩) out.length ca) R) := Lib.hid (by
          refine ⟨HN.out, ?_, ?_, ?_, below_set7 HT.out.2.2.1 HT.out.2.2.2⟩
          · have := HD.out.room
            rw [List.length_set]
            omega
          · rw [← aggV_set ja out q HQ2.out, List.length_set]
            exact ((((((((((((((HT.out.2.1).stored (q * 7) (.int .i64 ja.fr)).1).stored (q * 7 + 1) (.int .i64 ja.cn)).1).stored (q * 7 + 2) (.int .i64 ja.sm)).1).stored (q * 7 + 3) (.int .i64 ja.mn)).1).stored (q * 7 + 4) (.int .i64 ja.mx)).1).stored (q * 7 + 5) (.int .i64 ja.fi)).1).stored (q * 7 + 6) (.int .i64 ja.la)).1
          · intro x hx
            rcases List.mem_or_eq_of_mem_set hx with hx | rfl
            · exact HD.out.ok x hx
            · exact HJK.out)
        clear HT
        go_wp2
        go_roundw
        case rel => exact ⟨out.set q ja, j + 1, by omega, by go_num, HNEW⟩
        case measure => simp [intOf]; omega
    · obtain ⟨A, ca, hv, hrow⟩ := rowOf_own HD.out.own HD.out.ok
      have HN : Hid (R = (out, 0)) := Lib.hid (by rw [HD.out.says, List.drop_eq_nil_of_le (by rw [HL.out]; omega), downOn])
      have HV := Lib.hid hv
      have HROW := Lib.hid hrow
      clear hv hrow
      go_wp2
      (try rw [Exit.noGoto_ret])
      go_ret2
      refine ⟨A, ca, ?_, HD.out.below, ?_⟩
      · rw [HN.out, HV.out]; rfl
      · rw [HN.out]; exact HROW.out
end Go.Proofs.YtepancmkopifpaaGreatDoor
namespace Go.Proofs.YtepancmkopifpaaGreatDoor
open Go.RowKit
set_option linter.unusedVariables false

set_option maxRecDepth 100000 in
theorem down_none {A : Option Addr} {cap : Nat} {w : World} (k : Int) (hk : coarse k) (hr : coarse (k - 1)) : Calls Tryz.prog 70 #[.slice A 0 cap, .int .i64 k] w fun e w' => e = .returned (.tuple #[.slice none 0 0, .int .i64 0]) ∧ Below w.heap.size w w' := by
  have hk64 : In64 k ∧ In64 (k - 1) := by unfold coarse at hk; unfold In64; omega
  have hsub : IntKind.i64.wrap (k - 1) = k - 1 := by unfold coarse at hk; rw [IntKind.wrap_i64]; omega
  have m0 := fun w => coarse_any k w hk64.1
  rw [decide_eq_true hk] at m0
  have M0 := Lib.hid m0
  have m1 := aligned_none A cap (k - 1) w hr
  obtain ⟨k1, hk1⟩ : ∃ k1, k - 1 = k1 := ⟨_, rfl⟩
  replace hsub : IntKind.i64.wrap (k - 1) = k1 := hsub.trans hk1
  rw [hk1] at m1
  have M1 := Lib.hid m1
  clear m0 m1 hk hr hk64 hk1
  go_enter Tryz.func70, Tryz.ntmps70
  go_wp2
  go_step3
  go_wp2_with fail
  refine (M0.out _).mono ?_
  rintro e w2 ⟨rfl, rfl⟩
  go_wp2_with fail
  refine M1.out.mono ?_
  rintro e w2 ⟨rfl, hb2⟩
  have HB2 := Lib.hid hb2
  clear hb2 hsub
  go_wp2
  go_step3
  go_wp2
  refine wp_loop_rounds 1 ?_
  rw [rounds_succ]
  go_wp2
  (try rw [Exit.noGoto_ret])
  go_ret2
  exact ⟨rfl, HB2.out⟩

set_option maxRecDepth 100000 in
theorem down_tier (A : Option Addr) (len cap : Nat) (k : Int) (w : World) (hk64 : In64 k) (hk : ¬ coarse k) : Calls Tryz.prog 70 #[.slice A len cap, .int .i64 k] w fun e w' => e = .returned (.tuple #[.slice none 0 0, .int .i64 1]) ∧ Below w.heap.size w w' := by
  have m0 := fun w => coarse_any k w hk64
  rw [decide_eq_false hk] at m0
  have M0 := Lib.hid m0
  clear m0 hk hk64
  go_enter Tryz.func70, Tryz.ntmps70
  go_wp2
  go_step3
  go_wp2_with fail
  refine (M0.out _).mono ?_
  rintro e w2 ⟨rfl, rfl⟩
  go_wp2
  (try rw [Exit.noGoto_ret])
  go_ret2
  exact ⟨rfl, Below.refl _ _⟩

set_option maxRecDepth 100000 in
theorem down_fall {A : Option Addr} {len cap : Nat} {l : List Ag} {w : World} (k : Int) (hl : l.length = len) (hS : Aggs w A l) (hc : len ≤ cap) (hm : cap ≤ maxLen) (hk : coarse k) (hr : ¬ Align l (k - 1)) (hw : Wid w) : Calls Tryz.prog 70 #[.slice A len cap, .int .i64 k] w fun e w' => e = .returned (.tuple #[.slice none 0 0, .int .i64 1]) ∧ Below w.heap.size w w' := by
  have hk64 : In64 k ∧ In64 (k - 1) := by unfold coarse at hk; unfold In64; omega
  have hsub : IntKind.i64.wrap (k - 1) = k - 1 := by unfold coarse at hk; rw [IntKind.wrap_i64]; omega
  have m0 := fun w => coarse_any k w hk64.1
  rw [decide_eq_true hk] at m0
  have M0 := Lib.hid m0
  have m1 := aligned_any (k - 1) hl hS hc hm hk64.2 hw
  rw [decide_eq_false hr] at m1
  obtain ⟨k1, hk1⟩ : ∃ k1, k - 1 = k1 := ⟨_, rfl⟩
  replace hsub : IntKind.i64.wrap (k - 1) = k1 := hsub.trans hk1
  rw [hk1] at m1
  have M1 := Lib.hid m1
  clear m0 m1 hk hr hk64 hl hS hc hm hk1
  go_enter Tryz.func70, Tryz.ntmps70
  go_wp2
  go_step3
  go_wp2_with fail
  refine (M0.out _).mono ?_
  rintro e w2 ⟨rfl, rfl⟩
  go_wp2_with fail
  refine M1.out.mono ?_
  rintro e w2 ⟨rfl, hb2⟩
  go_wp2
  (try rw [Exit.noGoto_ret])
  go_ret2
  exact ⟨rfl, hb2⟩

theorem down_any {A : Option Addr} {len cap : Nat} {l : List Ag} {w : World} (k : Int) (h : RowOf w A len cap l) (hk : In64 k) (hw : Wid w) (hn : len ≤ 1000) :
    Calls Tryz.prog 70 #[.slice A len cap, .int .i64 k] w (Gives w (down l k)) := by
  obtain ⟨hl, hS, hc, hm, _⟩ := h
  unfold down
  by_cases hco : coarse k
  · by_cases hr : Align l (k - 1)
    · rw [if_pos ⟨hco, hr⟩]
      by_cases h0 : 0 < len
      · obtain ⟨b, off, rfl, hcell⟩ := hS.2 (by omega)
        exact down_in b off len cap l k w hl h0 hS hc hm hco hr hw hn
      · obtain rfl : len = 0 := by omega
        obtain rfl : l = [] := List.length_eq_zero_iff.1 hl
        rw [downOn]
        exact (down_none k hco hr.1).mono fun _ _ h => gives_none h
    · rw [if_neg (fun h => hr h.2)]
      exact (down_fall k hl hS hc hm hco hr hw).mono fun _ _ h => gives_none h
  · rw [if_neg (fun h => hco h.1)]
    exact (down_tier A len cap k w hk hco).mono fun _ _ h => gives_none h
end Go.Proofs.YtepancmkopifpaaGreatDoor
