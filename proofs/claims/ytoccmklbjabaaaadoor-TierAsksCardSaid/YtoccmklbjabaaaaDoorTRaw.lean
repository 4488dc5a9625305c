/-
  Raw: what it returns of every row of at most a thousand samples; nothing that was there is written.
-/
import Derived.Test.YtoccmklbjabaaaaDoorTRow
namespace Go.Proofs.YtoccmklbjabaaaaDoor
open Go.RowKit
attribute [local go_sem ↓] Go.wp_at_zero Go.wp_at_succ
set_option linter.unusedVariables false

theorem all_map {f : Int} {s : Int × Int} {r : List (Int × Int)} {c : Nat} {x : Ag × Int} (h : all f (s.2 :: (r.take c).map (·.2)) = x) : all f (((s :: r).take (c + 1)).map (·.2)) = x := by
  rw [List.take_succ_cons, List.map_cons]; exact h
theorem cnt_cons {e : Int} {s : Int × Int} {r : List (Int × Int)} {c : Nat} (h : s.1 < e) (hc : cnt e r = c) : cnt e (s :: r) = c + 1 := by
  show (if s.1 < e then cnt e r + 1 else 0) = c + 1
  rw [if_pos h, hc]

/-- What Raw's loop holds. -/
structure RawInv (w wr : World) (k : Int) (n b off m cap : Nat) (out : List Ag) (r : List (Int × Int)) (v : Value) (R : List Ag × Int) : Prop where
  len : r.length = m
  hcap : m ≤ cap
  hmax : cap ≤ maxLen
  samps : Samps w (some ⟨b, off, none⟩) r
  rise : Rise r
  says : R = rawOn k out r
  room : out.length + m ≤ n
  own : wr.ownsRow w.heap.size 43 7 v out.length (aggV out)
  ok : ∀ a ∈ out, a.ok
  below : Below w.heap.size w wr

set_option maxRecDepth 100000 in
set_option maxHeartbeats 1000000 in
theorem raw_in (b off n cap : Nat) (l : List (Int × Int)) (k : Int) (w : World) (hl : l.length = n) (hS : Samps w (some ⟨b, off, none⟩) l) (hc : n ≤ cap) (hm : cap ≤ maxLen) (hk : coarse k) (hr : Rise l) (hw : Wid w) (hn : n ≤ 1000) :
    Calls Tryd.prog 11 #[.slice (some ⟨b, off, none⟩) n cap, .int .i64 k] w fun e w' => ∃ A cap', e = .returned (.tuple #[.slice A (rawOn k [] l).1.length cap', .int .i64 (rawOn k [] l).2]) ∧ Below w.heap.size w w' ∧ RowOf w' A (rawOn k [] l).1.length cap' (rawOn k [] l).1 := by
  have hk64 : In64 k := by unfold coarse at hk; unfold In64; omega
  have m0 := fun w => coarse_any k w hk64
  rw [decide_eq_true hk] at m0
  have M0 := Lib.hid m0
  have m1 := fun w (h : Samps w (some ⟨b, off, none⟩) l) => rising_any hl h hc hm
  rw [decide_eq_true hr] at m1
  have M1 := Lib.hid m1
  obtain ⟨R, hR⟩ : ∃ R, rawOn k [] l = R := ⟨_, rfl⟩
  rw [hR]
  have HSTART : Hid (∀ wr, Below w.heap.size w wr → RawInv w wr k n b off n cap [] l (.slice none 0 0) R) := Lib.hid (fun wr hb => ⟨hl, hc, hm, hS, hr, hR.symm, by simp, World.ownsRow_nil _ _ _ _, by simp, hb⟩)
  have HS := Lib.hid hS
  have HK := Lib.hid hk
  have HK64 := Lib.hid hk64
  have HW := Lib.hid hw
  clear m0 m1 hR hS hk hr hw hl hm hc hk64
  go_enter Tryd.func11, Tryd.ntmps11
  go_wp2
  go_step3
  go_wp2_with fail
  refine (M0.out _).mono ?_
  rintro e w2 ⟨rfl, rfl⟩
  go_wp2_with fail
  refine (M1.out _ HS.out).mono ?_
  rintro e w2 ⟨rfl, hb2⟩
  have HB2 := Lib.hid hb2
  clear hb2
  go_wp2
  go_step3
  go_wp2
  go_loopw [6, 7, 8] (fun so sc sr wr => ∃ (out : List Ag) (r : List (Int × Int)) (off' m cap' : Nat), sc = .int .i64 0 ∧ sr = .slice (some ⟨b, off', none⟩) m cap' ∧ Hid (RawInv w wr k n b off' m cap' out r so R)) (fun _ _ sr _ => lenOf sr)
  case atStart => exact ⟨[], l, off, n, cap, rfl, rfl, Lib.hid (HSTART.out _ HB2.out)⟩
  case round =>
    obtain ⟨out, r, off', m, cap', rfl, rfl, HI⟩ := hrel
    have hm0 : m ≤ cap' ∧ cap' ≤ 2 ^ 63 - 1 := ⟨HI.out.hcap, HI.out.hmax⟩
    by_cases h0 : 0 < m
    · obtain ⟨s0, r1, rfl⟩ : ∃ s0 r1, r = s0 :: r1 := by
        match r, HI.out.len with
        | [], e => simp at e; omega
        | s0 :: r1, _ => exact ⟨s0, r1, rfl⟩
      obtain ⟨t0, v0⟩ := s0
      have hbe : Ag.begin_ t0 := rise_head HI.out.rise
      have hSw := HI.out.samps.below HI.out.below
      have ht64 := (HI.out.samps.1 (t0, v0) (by simp)).1
      have hflr := flr_le HK.out hbe
      have hfb := flr_begin HK.out hbe
      have hwb := coarse_wid HK.out
      have c0 : wr.cell? ⟨b, off', none⟩ = some (.int .i64 t0) := by
        obtain ⟨b', o', e, hcc⟩ := hSw.2 (by simp)
        injection e with e
        injection e with e1 e2
        subst e1 e2
        exact (hcc 0 (by simp)).1
      have m3 := fun w hw => floor_any t0 k w ht64 HK64.out hw
      have m4 := fun w hw => width_any k w HK64.out hw
      have hcn := rfl (a := cnt (flr t0 k + wid k) r1)
      generalize hc1 : cnt (flr t0 k + wid k) r1 = c at hcn
      have hcc := cnt_cons (s := (t0, v0)) hflr.2.2 hc1
      have hcle := cnt_le (flr t0 k + wid k) r1
      rw [hc1] at hcle
      have hlen := HI.out.len
      rw [List.length_cons] at hlen
      have m5 := below_in b off' m cap' ((t0, v0) :: r1) (flr t0 k + wid k) wr HI.out.len hSw.1 HI.out.hcap HI.out.hmax (by
        obtain ⟨b', o', e, hcc⟩ := hSw.2 (by simp)
        injection e with e
        injection e with e1 e2
        subst e1 e2
        intro j hj
        exact hcc j (by rw [HI.out.len]; exact hj))
      rw [hcc] at m5
      have hx := rfl (a := all (flr t0 k) (v0 :: (r1.take c).map (·.2)))
      generalize hx1 : all (flr t0 k) (v0 :: (r1.take c).map (·.2)) = x at hx
      have hsay := rawOn_cons k out (t0, v0) r1 hc1 hx1
      have hxok := all_ok (flr t0 k) hfb (v0 :: (r1.take c).map (·.2)) (fun v hv => by
        rw [List.mem_cons] at hv
        rcases hv with rfl | hv
        · exact (HI.out.samps.1 (t0, v) (by simp)).2
        · obtain ⟨s, hs, rfl⟩ := List.mem_map.1 hv
          exact (HI.out.samps.1 s (by simp [List.mem_of_mem_take hs])).2)
      rw [hx1] at hxok
      have m6 := fun w (h : Samps w (some ⟨b, off', none⟩) (((t0, v0) :: r1).take (c + 1))) => all_any (len := c + 1) (cap := cap') (flr t0 k) (by rw [List.length_take, HI.out.len]; omega) (by omega) h (by omega) HI.out.hmax hfb
      rw [all_map (s := (t0, v0)) hx1] at m6
      obtain ⟨xa, xc⟩ := x
      simp only at m6 hsay hxok
      generalize flr t0 k = F at *
      generalize hV : wid k = V at *
      have hadd : IntKind.i64.wrap (F + V) = F + V := by
        unfold Ag.begin_ at hfb
        rw [IntKind.wrap_i64]; omega
      obtain ⟨E, hE⟩ : ∃ E, F + V = E := ⟨_, rfl⟩
      rw [hE] at m5
      replace hadd : IntKind.i64.wrap (F + V) = E := hadd.trans hE
      obtain ⟨C, hC⟩ : ∃ C, c + 1 = C := ⟨_, rfl⟩
      rw [hC] at m5 m6
      have hC1 : 1 ≤ C := by omega
      have hCm : C ≤ m := by omega
      have HSAY := Lib.hid hsay
      have HXOK := Lib.hid hxok
      have M3 := Lib.hid m3
      have M4 := Lib.hid m4
      have M5 := Lib.hid m5
      have M6 := Lib.hid m6
      have HCC := Lib.hid hC
      have HSUB : Hid (∀ w', Below w.heap.size w w' → Samps w' (some ⟨b, off', none⟩) (((t0, v0) :: r1).take C)) := Lib.hid (fun w' hb => (HI.out.samps.below hb).sub C)
      have HWID : Hid (∀ w', Below w.heap.size w w' → Wid w') := Lib.hid (fun w' hb => HW.out.below hb)
      have HLEN := Lib.hid hlen
      clear m3 m4 m5 m6 hsay hxok hC hlen hcle hcc hcn hc1 hx hx1 hSw hbe hV hfb hflr hwb ht64 hE
      unfold Ag.val at M6
      have i0 : (0 : Int) < (m : Int) := by omega
      have i1 : (C : Int) ≤ (cap' : Int) := by omega
      have i2 : (0 : Int) ≤ (C : Int) := by omega
      have i3 : (C : Int) ≤ (m : Int) := by omega
      go_wp2_with fail
      refine (M3.out _ (HWID.out _ HI.out.below)).mono ?_
      rintro e w3 ⟨rfl, rfl⟩
      go_wp2_with fail
      refine (M4.out _ (HWID.out _ HI.out.below)).mono ?_
      rintro e w3 ⟨rfl, rfl⟩
      go_wp2_with fail
      refine M5.out.mono ?_
      rintro e w3 ⟨rfl, rfl⟩
      clear c0
      have HB3 : Hid (Below w.heap.size w (wr.alloc (.cells #[.int .i64 0, .int .i64 0, .int .i64 0, .int .i64 0, .int .i64 0, .int .i64 0, .int .i64 0] 43))) := Lib.hid (past_alloc HI.out.below _)
      have HH3 : Hid (Holds (wr.alloc (.cells #[.int .i64 0, .int .i64 0, .int .i64 0, .int .i64 0, .int .i64 0, .int .i64 0, .int .i64 0] 43)) wr.heap.size Ag.zero ∧ Free (wr.alloc (.cells #[.int .i64 0, .int .i64 0, .int .i64 0, .int .i64 0, .int .i64 0, .int .i64 0, .int .i64 0] 43)) wr.heap.size ∧
          (wr.alloc (.cells #[.int .i64 0, .int .i64 0, .int .i64 0, .int .i64 0, .int .i64 0, .int .i64 0, .int .i64 0] 43)).ownsRow w.heap.size 43 7 u6 out.length (aggV out) ∧ w.heap.size ≤ wr.heap.size ∧ wr.heap.size < (wr.alloc (.cells #[.int .i64 0, .int .i64 0, .int .i64 0, .int .i64 0, .int .i64 0, .int .i64 0, .int .i64 0] 43)).heap.size ∧ (some wr.heap.size ≠ u6.ownBlock)) := Lib.hid (by
        refine ⟨?_, ?_, own7_below HI.out.own (past_alloc (Below.refl _ _) _), HI.out.below.size, by simp, fun e => ?_⟩
        · unfold Holds Ag.zero
          simp
        · unfold Free
          simp
        · have := (HI.out.own.lt _ e.symm).2
          omega)
      go_upto_region 10 with fail
      generalize wr.alloc (.cells #[.int .i64 0, .int .i64 0, .int .i64 0, .int .i64 0, .int .i64 0, .int .i64 0, .int .i64 0] 43) = ws at *
      generalize wr.heap.size = g at *
      go_wp2_with fail
      refine (M6.out _ (HSUB.out _ HB3.out)).mono ?_
      rintro e wt ⟨rfl, hbt⟩
      have HZ : Hid (Holds (((((((wt.setCell ⟨g, 0, none⟩ (.int .i64 xa.fr)).setCell ⟨g, 1, none⟩ (.int .i64 xa.cn)).setCell ⟨g, 2, none⟩ (.int .i64 xa.sm)).setCell ⟨g, 3, none⟩ (.int .i64 xa.mn)).setCell ⟨g, 4, none⟩ (.int .i64 xa.mx)).setCell ⟨g, 5, none⟩ (.int .i64 xa.fi)).setCell ⟨g, 6, none⟩ (.int .i64 xa.la)) g xa ∧ (((((((wt.setCell ⟨g, 0, none⟩ (.int .i64 xa.fr)).setCell ⟨g, 1, none⟩ (.int .i64 xa.cn)).setCell ⟨g, 2, none⟩ (.int .i64 xa.sm)).setCell ⟨g, 3, none⟩ (.int .i64 xa.mn)).setCell ⟨g, 4, none⟩ (.int .i64 xa.mx)).setCell ⟨g, 5, none⟩ (.int .i64 xa.fi)).setCell ⟨g, 6, none⟩ (.int .i64 xa.la)).ownsRow w.heap.size 43 7 u6 out.length (aggV out) ∧ Below w.heap.size w (((((((wt.setCell ⟨g, 0, none⟩ (.int .i64 xa.fr)).setCell ⟨g, 1, none⟩ (.int .i64 xa.cn)).setCell ⟨g, 2, none⟩ (.int .i64 xa.sm)).setCell ⟨g, 3, none⟩ (.int .i64 xa.mn)).setCell ⟨g, 4, none⟩ (.int .i64 xa.mx)).setCell ⟨g, 5, none⟩ (.int .i64 xa.fi)).setCell ⟨g, 6, none⟩ (.int .i64 xa.la))) := Lib.hid (by
        obtain ⟨z1, z2, z3, z4, z5, z6'⟩ := HH3.out
        have z6 := z6'.symm
        have hbw := past HB3.out hbt
        refine ⟨holds_set (z1.below hbt), ?_, below_set hbw z4 _ _ _ _ _ _ _⟩
        exact ownsRow_setCell_other (ownsRow_setCell_other (ownsRow_setCell_other (ownsRow_setCell_other (ownsRow_setCell_other (ownsRow_setCell_other (ownsRow_setCell_other (own7_below z3 hbt) z6 _) z6 _) z6 _) z6 _) z6 _) z6 _) z6 _)
      obtain ⟨z0, z1, z2, z3, z4, z5, z6⟩ := HH3.out.1.below hbt
      obtain ⟨f0, f1, f2, f3, f4, f5, f6⟩ := HH3.out.2.1.below HH3.out.2.2.2.2.1 hbt
      have NE := Lib.hid HH3.out.2.2.2.2.2
      clear hbt HH3 HB3 M3 M4 M5 M6 HSUB
      go_upto_region 11 with fail
      clear z0 z1 z2 z3 z4 z5 z6 f0 f1 f2 f3 f4 f5 f6
      generalize ((((((wt.setCell ⟨g, 0, none⟩ (.int .i64 xa.fr)).setCell ⟨g, 1, none⟩ (.int .i64 xa.cn)).setCell ⟨g, 2, none⟩ (.int .i64 xa.sm)).setCell ⟨g, 3, none⟩ (.int .i64 xa.mn)).setCell ⟨g, 4, none⟩ (.int .i64 xa.mx)).setCell ⟨g, 5, none⟩ (.int .i64 xa.fi)).setCell ⟨g, 6, none⟩ (.int .i64 xa.la) = wz at *
      by_cases hz : xc = 0
      case neg =>
        have HN : Hid (R = ([], xc)) := Lib.hid (by rw [HI.out.says, HSAY.out, if_neg hz])
        have hz' : (xc == 0) = false := by simpa using hz
        go_wp2
        (try rw [Exit.noGoto_ret])
        go_ret2
        refine ⟨none, 0, ?_, HZ.out.2.2, ?_⟩
        · rw [HN.out]; rfl
        · rw [HN.out]; exact ⟨rfl, ⟨by simp, fun h => absurd h (by simp)⟩, Nat.le_refl _, by unfold maxLen; omega, fun _ => rfl⟩
      have HN : Hid (R = rawOn k (out ++ [xa]) (r1.drop c)) := Lib.hid (by rw [HI.out.says, HSAY.out, if_pos hz])
      subst hz
      obtain ⟨d0, d1, d2, d3, d4, d5, d6⟩ := HZ.out.1
      obtain ⟨w9, hw9⟩ : ∃ w9, w9 = wz.alloc (.cells #[.int .i64 xa.fr, .int .i64 xa.cn, .int .i64 xa.sm, .int .i64 xa.mn, .int .i64 xa.mx, .int .i64 xa.fi, .int .i64 xa.la] 43) := ⟨_, rfl⟩
      have hB9 : Below wz.heap.size wz w9 := by rw [hw9]; exact past_alloc (Below.refl _ _) _
      have W9 := Lib.hid hw9
      have O9 : Hid (w9.ownsRow w.heap.size 43 7 u6 out.length (aggV out)) := Lib.hid (own7_below HZ.out.2.1 hB9)
      have N9 : Hid (∀ j u, xa.cells[j]? = some u → w9.cell? ((⟨wz.heap.size, 0, none⟩ : Addr).add j) = some u) := Lib.hid (Holds.news (by rw [hw9]; exact Holds.new wz xa))
      have Z9 : Hid (w.heap.size ≤ w9.heap.size) := Lib.hid (Nat.le_trans HZ.out.2.2.size hB9.size)
      have BB : Hid (Below w.heap.size w w9) := Lib.hid (past HZ.out.2.2 hB9)
      have hroom : out.length + 1 ≤ 1000 := by have := HI.out.room; omega
      clear hw9 hB9
      go_upto_region 13 with fail
      obtain ⟨i0', hi, hz0, hz1, hz2⟩ := info_parts Tryd.info43
      go_wp2_with (at_builtin; rw [← W9.out]; refine wpList_append_lies _ rfl _ _ 29 rfl w.heap.size 43 i0' (.agg #[.int .i64 0, .int .i64 0, .int .i64 0, .int .i64 0, .int .i64 0, .int .i64 0, .int .i64 0]) 7 56 Tryd.underlying29 hi hz0 hz1 hz2 rfl (by decide) u6 out.length (aggV out) rfl O9.out ⟨wz.heap.size, 0, none⟩ 1 1 xa.cells rfl rfl N9.out (cells_one xa) (by decide) (by unfold maxLen; omega) (by omega) Z9.out _ rfl ?_)
      intro ga ca wa hown hgrow hat hltg
      have HNEW : Hid (wa.ownsRow w.heap.size 43 7 (.slice (some ⟨ga, 0, none⟩) (out.length + 1) ca) (out.length + 1) (aggV (out ++ [xa])) ∧ Below w.heap.size w wa) := Lib.hid (by
        refine ⟨?_, BB.out.grown hgrow Z9.out (fun k h => (O9.out.lt k h).1)⟩
        rw [aggV_append, aggV_one]
        exact hown)
      clear hown hgrow hat hltg d0 d1 d2 d3 d4 d5 d6 W9 O9 N9 Z9 BB
      have HNEXT : Hid (∀ off2 cap2, m - C ≤ cap2 → cap2 ≤ maxLen → (C < m → off2 = off' + C * 2) → RawInv w wa k n b off2 (m - C) cap2 (out ++ [xa]) (r1.drop c) (.slice (some ⟨ga, 0, none⟩) (out.length + 1) ca) R) := Lib.hid (fun off2 cap2 h1 h2 h3 => by
        have hCC := HCC.out
        have hLEN := HLEN.out
        have hdl : (r1.drop c).length = m - C := by rw [List.length_drop]; omega
        have hsam : Samps w (some ⟨b, off' + C * 2, none⟩) (r1.drop c) := by
          have := HI.out.samps.rest C
          rw [← hCC, List.drop_succ_cons] at this
          rw [← hCC]
          exact this
        refine ⟨hdl, h1, h2, ?_, rise_drop c (rise_tail HI.out.rise), HN.out, ?_, ?_, ?_, HNEW.out.2⟩
        · by_cases hlt : C < m
          · rw [h3 hlt]; exact hsam
          · exact hsam.nil (by omega)
        · have := HI.out.room
          rw [List.length_append]
          show out.length + 1 + (m - C) ≤ n
          omega
        · rw [List.length_append]
          exact HNEW.out.1
        · intro a ha
          rw [List.mem_append, List.mem_singleton] at ha
          rcases ha with ha | rfl
          · exact HI.out.ok a ha
          · exact HXOK.out)
      have HMX := Lib.hid HI.out.hmax
      have HCP := Lib.hid HI.out.hcap
      by_cases hcc : C = cap'
      · obtain rfl : m = C := by omega
        obtain rfl : cap' = m := hcc.symm
        clear hcc
        go_wp2
        go_roundw
        case rel => exact ⟨out ++ [xa], r1.drop c, off', 0, 0, rfl, by simp, Lib.hid (by
          have := HNEXT.out off' 0 (by omega) (by unfold maxLen; omega) (fun h => absurd h (by omega))
          rw [Nat.sub_self] at this
          exact this)⟩
        case measure => simp [lenOf]; omega
      · have hcl : C < cap' := by omega
        have hci : (C : Int) < (cap' : Int) := by omega
        go_wp2
        go_roundw
        case rel => exact ⟨out ++ [xa], r1.drop c, off' + C * 2, m - C, cap' - C, rfl, rfl, Lib.hid (HNEXT.out _ _ (by omega) (by have := HMX.out; unfold maxLen at *; omega) (fun _ => rfl))⟩
        case measure => simp [lenOf]; omega
    · obtain rfl : m = 0 := by omega
      have hr0 : r = [] := List.length_eq_zero_iff.1 HI.out.len
      obtain ⟨A, ca, hv, hrow⟩ := rowOf_own HI.out.own HI.out.ok
      have HN : Hid (R = (out, 0)) := Lib.hid (by rw [HI.out.says, hr0, rawOn])
      have HV := Lib.hid hv
      have HROW := Lib.hid hrow
      clear hr0 hv hrow
      go_wp2
      (try rw [Exit.noGoto_ret])
      go_ret2
      refine ⟨A, ca, ?_, HI.out.below, ?_⟩
      · rw [HN.out, HV.out]; rfl
      · rw [HN.out]; exact HROW.out
end Go.Proofs.YtoccmklbjabaaaaDoor
