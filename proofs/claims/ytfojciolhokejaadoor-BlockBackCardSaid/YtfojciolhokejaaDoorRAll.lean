/-
  The document's own answer for All: what it returns of every row of samples that is not empty; nothing that was there is written.
-/
import Derived.Test.YtfojciolhokejaaDoorRJoin
import Derived.Test.YtfojciolhokejaaDoorTRaw
namespace Go.Proofs.YtfojciolhokejaaDoor
open Go.RowKit
attribute [local go_sem ↓] Go.wp_at_zero Go.wp_at_succ
set_option linter.unusedVariables false

theorem join_none {a b : Ag} (h : (join a b).2 ≠ 0) : (join a b).1 = Ag.zero := by
  unfold join at h ⊢
  split
  · next h1 =>
    rw [if_pos h1] at h
    split
    · next h2 => rw [if_pos h2] at h; exact absurd rfl h
    · rfl
  · rfl

set_option maxRecDepth 100000 in
set_option maxHeartbeats 2000000 in
theorem rall_in (b off n cap : Nat) (l : List (Int × Int)) (f : Int) (w : World) (hl : l.length = n) (hlen : 1 ≤ n) (hb : ∀ s ∈ l, In64 s.1 ∧ In64 s.2) (hc : n ≤ cap) (hm : cap ≤ maxLen) (hf : Ag.begin_ f)
    (hcell : ∀ j, j < n → w.cell? ⟨b, off + j * 2, none⟩ = some (.int .i64 (l.getD j (0, 0)).1) ∧ w.cell? ⟨b, off + j * 2 + 1, none⟩ = some (.int .i64 (l.getD j (0, 0)).2)) :
    Calls Tryd.prog 42 #[.slice (some ⟨b, off, none⟩) n cap, .int .i64 f] w fun e w' => e = .returned (.tuple #[(all f (l.map (·.2))).1.val, .int .i64 (all f (l.map (·.2))).2]) ∧ Below w.heap.size w w' := by
  unfold maxLen at hm
  have hf64 : In64 f := by
    unfold Ag.begin_ at hf
    unfold In64
    omega
  obtain ⟨c0, c1⟩ := hcell 0 (by omega)
  simp only [Nat.zero_mul, Nat.add_zero] at c0 c1
  have hb0 := hb (l.getD 0 (0, 0)) (sample_mem (by omega))
  have hR : all f (l.map (·.2)) = goOn f (.one (l.getD 0 (0, 0)).2 f) ((l.map (·.2)).drop (0 + 1)) := all_at (by omega) hf
  generalize all f (l.map (·.2)) = R at hR
  obtain ⟨⟨Rfr, Rcn, Rsm, Rmn, Rmx, Rfi, Rla⟩, Rc⟩ := R
  generalize hs0 : l.getD 0 (0, 0) = s0 at c0 c1 hb0 hR
  obtain ⟨t0, v0⟩ := s0
  simp only at c0 c1 hb0 hR
  have m2 := fun w => rone_any t0 v0 f w hb0.2 hf64
  have M2 := Lib.hid m2
  have HCELL := Lib.hid hcell
  have HL := Lib.hid hl
  have HB := Lib.hid hb
  have HR := Lib.hid hR
  have HV0 := Lib.hid hb0.2
  have hlt : b < w.heap.size := World.block_lt_of_cell? w _ c0
  have HZ : Hid (Holds (w.alloc (.cells #[.int .i64 0, .int .i64 0, .int .i64 0, .int .i64 0, .int .i64 0, .int .i64 0, .int .i64 0] 70)) w.heap.size Ag.zero ∧ Free (w.alloc (.cells #[.int .i64 0, .int .i64 0, .int .i64 0, .int .i64 0, .int .i64 0, .int .i64 0, .int .i64 0] 70)) w.heap.size ∧ Below w.heap.size w (w.alloc (.cells #[.int .i64 0, .int .i64 0, .int .i64 0, .int .i64 0, .int .i64 0, .int .i64 0, .int .i64 0] 70)) ∧ w.heap.size < (w.alloc (.cells #[.int .i64 0, .int .i64 0, .int .i64 0, .int .i64 0, .int .i64 0, .int .i64 0, .int .i64 0] 70)).heap.size) := Lib.hid
    ⟨(zero_new w).1, (zero_new w).2.1, past_alloc (Below.refl _ _) _, (zero_new w).2.2⟩
  have HF := Lib.hid hf
  have HF64 := Lib.hid hf64
  have h0i : (0 : Int) < (n : Int) := by omega
  have h0n : 0 < n := hlen
  have f1 : ¬ f < 0 := by unfold Ag.begin_ at hf; omega
  have f2 : ¬ 1099511627776 < f := by unfold Ag.begin_ at hf; omega
  unfold Ag.val at *
  clear hcell hl hb hs0 m2 hb0 hR hf hf64
  go_enter Tryd.func42, Tryd.ntmps42
  go_wp2_with fail
  refine (M2.out _).mono ?_
  rintro e w2 ⟨rfl, hb2⟩
  have HH : Hid (AllHolds w (w2.alloc (.cells #[.int .i64 (Ag.one v0 f).fr, .int .i64 (Ag.one v0 f).cn, .int .i64 (Ag.one v0 f).sm, .int .i64 (Ag.one v0 f).mn, .int .i64 (Ag.one v0 f).mx, .int .i64 (Ag.one v0 f).fi, .int .i64 (Ag.one v0 f).la] 70)) w2.heap.size (Ag.one v0 f)) := Lib.hid (by
    obtain ⟨z1, z2, z3, z4⟩ := HZ.out
    have hb3 := (Below.refl w2.heap.size w2).alloc (Nat.le_refl _) (.cells #[.int .i64 (Ag.one v0 f).fr, .int .i64 (Ag.one v0 f).cn, .int .i64 (Ag.one v0 f).sm, .int .i64 (Ag.one v0 f).mn, .int .i64 (Ag.one v0 f).mx, .int .i64 (Ag.one v0 f).fi, .int .i64 (Ag.one v0 f).la] 70)
    refine ⟨?_, ?_, by simp, Nat.lt_of_lt_of_le z4 hb2.size, (z1.below hb2).below hb3, (z2.below z4 hb2).below (Nat.lt_of_lt_of_le z4 hb2.size) hb3, (z3.trans (hb2.mono z3.size)).trans (hb3.mono (Nat.le_trans z3.size hb2.size))⟩
    · unfold Holds
      simp
    · unfold Free
      simp)
  clear hb2 HZ c0 c1
  go_wp2
  generalize hg6 : w2.heap.size = g6 at *
  go_loopw [7] (fun si wr => ∃ (k : Nat) (a : Ag), 1 ≤ k ∧ k ≤ n ∧ si = .int .i64 (k : Int) ∧ Hid ((⟨Rfr, Rcn, Rsm, Rmn, Rmx, Rfi, Rla⟩, Rc) = goOn f a ((l.map (·.2)).drop k)) ∧ Hid a.ok ∧ Hid (AllHolds w wr g6 a)) (fun si _ => n - (intOf si).toNat)
  case atStart => exact ⟨1, Ag.one v0 f, by omega, by omega, rfl, HR, Lib.hid (one_ok HF.out HV0.out), HH⟩
  case round =>
    obtain ⟨k, a, hk1, hk, rfl, HD, HOK, HA⟩ := hrel
    by_cases hlt : k < n
    · obtain ⟨c0, c1⟩ := HCELL.out k hlt
      have hbk := HB.out (l.getD k (0, 0)) (sample_mem (by rw [HL.out]; omega))
      have hd := drop_map (l := l) (k := k) (by rw [HL.out]; omega)
      generalize l.getD k (0, 0) = s1 at c0 c1 hbk hd
      obtain ⟨t1, v1⟩ := s1
      simp only at c0 c1 hbk hd
      have hbel := HA.out.2.2.2.2.2.2
      rw [← hbel.cell (World.block_lt_of_cell? w _ c0)] at c0
      rw [← hbel.cell (World.block_lt_of_cell? w _ c1)] at c1
      have m3 := fun w => rone_any t1 v1 f w hbk.2 HF64.out
      have m4 := fun w => rjoin_any a (.one v1 f) w HOK.out (one_ok HF.out hbk.2)
      have hok := join_ok HOK.out (one_ok HF.out hbk.2)
      have hgo := goOn_cons f a v1 ((l.map (·.2)).drop (k + 1)) rfl
      rw [← hd, ← HD.out] at hgo
      have hjz := join_none (a := a) (b := .one v1 f)
      generalize join a (.one v1 f) = j at m4 hok hgo hjz
      obtain ⟨ja, jc⟩ := j
      simp only at m4 hok hgo hjz
      have HJZ := Lib.hid hjz
      clear hjz
      have M3 := Lib.hid m3
      have M4 := Lib.hid m4
      have HOK' := Lib.hid hok
      have HGO := Lib.hid hgo
      clear m3 m4 hok hgo hd hbk hbel HD HOK
      unfold Ag.val at M3 M4
      have hcap : (k : Int) < (n : Int) := by omega
      have hcap0 : (0 : Int) ≤ (k : Int) := by omega
      have C0 := Lib.hid c0
      have C1 := Lib.hid c1
      obtain ⟨a0, a1, a2, a3, a4, a5, a6⟩ := HA.out.1
      have HS : Hid (∀ w', Below wr.heap.size wr w' → w'.cell? ⟨b, off + k * 2, none⟩ = some (.int .i64 t1) ∧ w'.cell? ⟨b, off + k * 2 + 1, none⟩ = some (.int .i64 v1) ∧ w'.cell? ⟨g6, 0, none⟩ = some (.int .i64 a.fr) ∧ w'.cell? ⟨g6, 1, none⟩ = some (.int .i64 a.cn) ∧ w'.cell? ⟨g6, 2, none⟩ = some (.int .i64 a.sm) ∧ w'.cell? ⟨g6, 3, none⟩ = some (.int .i64 a.mn) ∧ w'.cell? ⟨g6, 4, none⟩ = some (.int .i64 a.mx) ∧ w'.cell? ⟨g6, 5, none⟩ = some (.int .i64 a.fi) ∧ w'.cell? ⟨g6, 6, none⟩ = some (.int .i64 a.la)) := Lib.hid (fun w' hb => ⟨by rw [hb.cell (World.block_lt_of_cell? wr _ C0.out)]; exact C0.out, by rw [hb.cell (World.block_lt_of_cell? wr _ C1.out)]; exact C1.out, (HA.out.below hb).1⟩)
      go_upto_region 7 with fail
      go_region_held3 (fun w' => w'.cell? ⟨b, off + k * 2, none⟩ = some (.int .i64 t1) ∧ w'.cell? ⟨b, off + k * 2 + 1, none⟩ = some (.int .i64 v1) ∧ w'.cell? ⟨g6, 0, none⟩ = some (.int .i64 a.fr) ∧ w'.cell? ⟨g6, 1, none⟩ = some (.int .i64 a.cn) ∧ w'.cell? ⟨g6, 2, none⟩ = some (.int .i64 a.sm) ∧ w'.cell? ⟨g6, 3, none⟩ = some (.int .i64 a.mn) ∧ w'.cell? ⟨g6, 4, none⟩ = some (.int .i64 a.mx) ∧ w'.cell? ⟨g6, 5, none⟩ = some (.int .i64 a.fi) ∧ w'.cell? ⟨g6, 6, none⟩ = some (.int .i64 a.la))
        ((refine HS.out _ ?_
          first
            | with_reducible exact hBv
            | with_reducible exact past_alloc hBv _
            | with_reducible exact below_set hBv (Nat.le_refl _) _ _ _ _ _ _ _
            | with_reducible exact below_set hBv (hB.size) _ _ _ _ _ _ _
            | with_reducible exact hB
            | with_reducible exact past_alloc hB _
            | exact belowN wr 1
            | exact past_alloc (belowN wr 1) _
            | exact past (past_alloc (Below.refl _ _) _) (belowN _ 1)))
        (first
          | (go_at_call 53; refine (M3.out _).mono ?_; rintro e wt ⟨rfl, hbt⟩
             first
               | (have hB : Below wr.heap.size wr wt := (belowN wr 1).trans hbt)
               | (have hbt' := (belowN (wr.alloc (.cells #[.int .i64 0, .int .i64 0, .int .i64 0, .int .i64 0, .int .i64 0, .int .i64 0, .int .i64 0] 70)) 1).trans hbt
                  have hB : Below wr.heap.size wr wt := past (past_alloc (Below.refl _ _) _) hbt'
                  have hz8 : Holds wt wr.heap.size Ag.zero := (zero_new wr).1.below hbt'
                  have hf8 : Free wt wr.heap.size := (zero_new wr).2.1.below (zero_new wr).2.2 hbt'))
          | (go_at_call 54; refine (M4.out _).mono ?_; rintro e wv ⟨rfl, hbv⟩
             first
               | (have hz9 := hz8.below hbv
                  have hf9 := hf8.below hz8.lt hbv
                  have hBv : Below wr.heap.size wr wv := hB.trans (hbv.mono hB.size)
                  unfold Ag.zero at hz9
                  obtain ⟨z0, z1, z2, z3, z4, z5, z6⟩ := hz9
                  obtain ⟨f0, f1, f2, f3, f4, f5, f6⟩ := hf9)
               | (have hBv : Below wr.heap.size wr wv := hB.trans (hbv.mono hB.size))
               | (have hBv : Below wr.heap.size wr wv := past (past_alloc hB _) hbv
                  have hz7 : Holds wv wt.heap.size Ag.zero := (zero_new wt).1.below hbv
                  have hf7 : Free wv wt.heap.size := (zero_new wt).2.1.below (zero_new wt).2.2 hbv
                  unfold Ag.zero at hz7
                  obtain ⟨z0, z1, z2, z3, z4, z5, z6⟩ := hz7
                  obtain ⟨f0, f1, f2, f3, f4, f5, f6⟩ := hf7)))
      all_goals first
        | (have hk8 := hz8
           have HT : Hid (AllHolds w (((((((wv.setCell ⟨wr.heap.size, 0, none⟩ (.int .i64 ja.fr)).setCell ⟨wr.heap.size, 1, none⟩ (.int .i64 ja.cn)).setCell ⟨wr.heap.size, 2, none⟩ (.int .i64 ja.sm)).setCell ⟨wr.heap.size, 3, none⟩ (.int .i64 ja.mn)).setCell ⟨wr.heap.size, 4, none⟩ (.int .i64 ja.mx)).setCell ⟨wr.heap.size, 5, none⟩ (.int .i64 ja.fi)).setCell ⟨wr.heap.size, 6, none⟩ (.int .i64 ja.la)) g6 a ∧ Holds (((((((wv.setCell ⟨wr.heap.size, 0, none⟩ (.int .i64 ja.fr)).setCell ⟨wr.heap.size, 1, none⟩ (.int .i64 ja.cn)).setCell ⟨wr.heap.size, 2, none⟩ (.int .i64 ja.sm)).setCell ⟨wr.heap.size, 3, none⟩ (.int .i64 ja.mn)).setCell ⟨wr.heap.size, 4, none⟩ (.int .i64 ja.mx)).setCell ⟨wr.heap.size, 5, none⟩ (.int .i64 ja.fi)).setCell ⟨wr.heap.size, 6, none⟩ (.int .i64 ja.la)) wr.heap.size ja) := Lib.hid ⟨HA.out.below (below_set hBv (Nat.le_refl _) _ _ _ _ _ _ _), holds_set (a0 := Ag.zero) ⟨z0, z1, z2, z3, z4, z5, z6⟩⟩
           clear hk8 hz8 hf8 hbt' z0 z1 z2 z3 z4 z5 z6 f0 f1 f2 f3 f4 f5 f6
           clear hbt hB hbv hBv a0 a1 a2 a3 a4 a5 a6 c0 c1 HS C0 C1 HA M3 M4
           generalize (((((((wv.setCell ⟨wr.heap.size, 0, none⟩ (.int .i64 ja.fr)).setCell ⟨wr.heap.size, 1, none⟩ (.int .i64 ja.cn)).setCell ⟨wr.heap.size, 2, none⟩ (.int .i64 ja.sm)).setCell ⟨wr.heap.size, 3, none⟩ (.int .i64 ja.mn)).setCell ⟨wr.heap.size, 4, none⟩ (.int .i64 ja.mx)).setCell ⟨wr.heap.size, 5, none⟩ (.int .i64 ja.fi)).setCell ⟨wr.heap.size, 6, none⟩ (.int .i64 ja.la)) = wq at *
           generalize wr.heap.size = g8 at *)
        | (have hk8 := z0
           have HT : Hid (AllHolds w (((((((wv.setCell ⟨wt.heap.size, 0, none⟩ (.int .i64 ja.fr)).setCell ⟨wt.heap.size, 1, none⟩ (.int .i64 ja.cn)).setCell ⟨wt.heap.size, 2, none⟩ (.int .i64 ja.sm)).setCell ⟨wt.heap.size, 3, none⟩ (.int .i64 ja.mn)).setCell ⟨wt.heap.size, 4, none⟩ (.int .i64 ja.mx)).setCell ⟨wt.heap.size, 5, none⟩ (.int .i64 ja.fi)).setCell ⟨wt.heap.size, 6, none⟩ (.int .i64 ja.la)) g6 a ∧ Holds (((((((wv.setCell ⟨wt.heap.size, 0, none⟩ (.int .i64 ja.fr)).setCell ⟨wt.heap.size, 1, none⟩ (.int .i64 ja.cn)).setCell ⟨wt.heap.size, 2, none⟩ (.int .i64 ja.sm)).setCell ⟨wt.heap.size, 3, none⟩ (.int .i64 ja.mn)).setCell ⟨wt.heap.size, 4, none⟩ (.int .i64 ja.mx)).setCell ⟨wt.heap.size, 5, none⟩ (.int .i64 ja.fi)).setCell ⟨wt.heap.size, 6, none⟩ (.int .i64 ja.la)) wt.heap.size ja) := Lib.hid ⟨HA.out.below (below_set hBv hB.size _ _ _ _ _ _ _), holds_set (a0 := Ag.zero) ⟨z0, z1, z2, z3, z4, z5, z6⟩⟩
           clear hk8 z0 z1 z2 z3 z4 z5 z6 f0 f1 f2 f3 f4 f5 f6
           clear hbt hB hbv hBv a0 a1 a2 a3 a4 a5 a6 c0 c1 HS C0 C1 HA M3 M4
           generalize (((((((wv.setCell ⟨wt.heap.size, 0, none⟩ (.int .i64 ja.fr)).setCell ⟨wt.heap.size, 1, none⟩ (.int .i64 ja.cn)).setCell ⟨wt.heap.size, 2, none⟩ (.int .i64 ja.sm)).setCell ⟨wt.heap.size, 3, none⟩ (.int .i64 ja.mn)).setCell ⟨wt.heap.size, 4, none⟩ (.int .i64 ja.mx)).setCell ⟨wt.heap.size, 5, none⟩ (.int .i64 ja.fi)).setCell ⟨wt.heap.size, 6, none⟩ (.int .i64 ja.la)) = wq at *
           generalize wt.heap.size = g8 at *)
        | (have HT : Hid (AllHolds w (wv.alloc (.cells #[.int .i64 ja.fr, .int .i64 ja.cn, .int .i64 ja.sm, .int .i64 ja.mn, .int .i64 ja.mx, .int .i64 ja.fi, .int .i64 ja.la] 70)) g6 a ∧ Holds (wv.alloc (.cells #[.int .i64 ja.fr, .int .i64 ja.cn, .int .i64 ja.sm, .int .i64 ja.mn, .int .i64 ja.mx, .int .i64 ja.fi, .int .i64 ja.la] 70)) wv.heap.size ja) := Lib.hid ⟨HA.out.below (past_alloc hBv _), Holds.new wv ja⟩
           clear hbt hB hbv hBv a0 a1 a2 a3 a4 a5 a6 c0 c1 HS C0 C1 HA M3 M4
           generalize (wv.alloc (.cells #[.int .i64 ja.fr, .int .i64 ja.cn, .int .i64 ja.sm, .int .i64 ja.mn, .int .i64 ja.mx, .int .i64 ja.fi, .int .i64 ja.la] 70)) = wq at *
           generalize wv.heap.size = g8 at *)
      all_goals
        obtain ⟨d0, d1, d2, d3, d4, d5, d6⟩ := HT.out.2
        by_cases hz : jc = 0
        · have HN := Lib.hid (HGO.out.trans (if_pos hz))
          subst hz
          obtain ⟨a0, a1, a2, a3, a4, a5, a6⟩ := HT.out.1.1
          obtain ⟨g0, g1, g2, g3, g4, g5, g6'⟩ := HT.out.1.2.1
          have HW := Lib.hid (AllHolds.set ja HT.out.1)
          clear HT
          go_wp2
          go_roundw
          case rel => exact ⟨k + 1, ja, by omega, by omega, by go_num, HN, HOK', HW⟩
          case measure => simp [intOf]; omega
        · have HN := Lib.hid (HGO.out.trans (if_neg hz))
          have hja := HJZ.out hz
          have hz' : (jc == 0) = false := by simpa using hz
          clear d0 d1 d2 d3 d4 d5 d6
          obtain ⟨z0, z1, z2, z3, z4, z5, z6⟩ := HT.out.1.2.2.2.2.1
          obtain ⟨f0, f1, f2, f3, f4, f5, f6⟩ := HT.out.1.2.2.2.2.2.1
          have HJA := Lib.hid hja
          clear hja
          go_wp2
          (try rw [Exit.noGoto_ret])
          (try simp only [Exit.inBlock, Exit.then])
          refine bodyPost_ret (v := .tuple #[.agg #[.int .i64 0, .int .i64 0, .int .i64 0, .int .i64 0, .int .i64 0, .int .i64 0, .int .i64 0], .int .i64 jc]) ?_ rfl ⟨?_, ?_⟩
          · rw [results_cell_tmp rfl]
            go_simp
          · have e := HN.out
            rw [HJA.out] at e
            unfold Ag.zero at e
            injection e with e1 e2
            injection e1 with e1 e3 e4 e5 e6 e7 e8
            subst e1 e2 e3 e4 e5 e6 e7 e8
            rfl
          · exact below_set HT.out.1.2.2.2.2.2.2 (Nat.le_refl _) _ _ _ _ _ _ _
    · obtain ⟨d0, d1, d2, d3, d4, d5, d6⟩ := HA.out.1
      obtain ⟨z0, z1, z2, z3, z4, z5, z6⟩ := HA.out.2.2.2.2.1
      obtain ⟨f0, f1, f2, f3, f4, f5, f6⟩ := HA.out.2.2.2.2.2.1
      go_wp2
      (try rw [Exit.noGoto_ret])
      (try simp only [Exit.inBlock, Exit.then])
      refine bodyPost_ret (v := .tuple #[.agg #[.int .i64 a.fr, .int .i64 a.cn, .int .i64 a.sm, .int .i64 a.mn, .int .i64 a.mx, .int .i64 a.fi, .int .i64 a.la], .int .i64 0]) ?_ rfl ⟨?_, ?_⟩
      · rw [results_cell_tmp rfl]
        go_simp
      · have e := HD.out
        rw [List.drop_eq_nil_of_le (by rw [List.length_map, HL.out]; omega)] at e
        obtain ⟨fr, cn, sm, mn, mx, fi, la⟩ := a
        injection e with e1 e2
        injection e1 with e1 e3 e4 e5 e6 e7 e8
        subst e1 e2 e3 e4 e5 e6 e7 e8
        rfl
      · exact below_set HA.out.2.2.2.2.2.2 (Nat.le_refl _) _ _ _ _ _ _ _

theorem rall_any {A : Option Addr} {len cap : Nat} {l : List (Int × Int)} (f : Int) {w : World} (hl : l.length = len) (hlen : 1 ≤ len) (hS : Samps w A l) (hc : len ≤ cap) (hm : cap ≤ maxLen) (hf : Ag.begin_ f) :
    Calls Tryd.prog 42 #[.slice A len cap, .int .i64 f] w fun e w' => e = .returned (.tuple #[(all f (l.map (·.2))).1.val, .int .i64 (all f (l.map (·.2))).2]) ∧ Below w.heap.size w w' := by
  obtain ⟨b, off, rfl, hcell⟩ := hS.2 (by omega)
  rw [hl] at hcell
  exact rall_in b off len cap l f w hl hlen hS.1 hc hm hf hcell
end Go.Proofs.YtfojciolhokejaaDoor
