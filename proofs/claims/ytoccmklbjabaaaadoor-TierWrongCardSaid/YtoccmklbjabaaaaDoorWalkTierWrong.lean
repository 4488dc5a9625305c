/-
  The walk of TierWrong: it returns true, and writes nothing that was there.
-/
import Derived.Test.YtoccmklbjabaaaaDoorTSums
namespace Go.Proofs.YtoccmklbjabaaaaDoor.tierWrong
open Go.RowKit
set_option linter.unusedVariables false

theorem urem {a : Int} (m : Int) (hm : 0 < m) : ∃ x : Nat, (IntKind.u64.wrap a).tmod m = (x : Int) ∧ (x : Int) < m := by
  have h0 : 0 ≤ IntKind.u64.wrap a := by rw [IntKind.wrap_u64]; omega
  have h1 := Int.tmod_nonneg m h0
  have h2 := Int.tmod_lt_of_pos (IntKind.u64.wrap a) hm
  exact ⟨((IntKind.u64.wrap a).tmod m).toNat, by omega, by omega⟩

set_option maxRecDepth 100000 in
set_option maxHeartbeats 1000000 in
theorem walk (a0 : Option Addr) (len0 cap0 : Nat) (l0 : List Int) (a1 a2 : Int) (w : World) (s0 : Ints w a0 len0 cap0 l0) (w1 : (Lit.int .i64 a1).wf = true) (w2 : (Lit.int .i64 a2).wf = true) (hw : Wid w) :
    Calls Tryd.prog 3 #[.slice a0 len0 cap0, .int .i64 a1, .int .i64 a2] w fun e w' => e = .returned (.bool true) ∧ Below w.heap.size w w' := by
  have M0 := Lib.hid (rise_any (a1 := none) (len1 := 0) (cap1 := 0) (l1 := []) (w := w) 30 (by omega) s0 ⟨rfl, by simp, fun h => absurd h (by omega), Nat.le_refl _, by unfold maxLen; omega, fun _ => rfl⟩)
  have HW : Hid (∀ w', Below w.heap.size w w' → Wid w') := Lib.hid (fun w' hb => hw.below hb)
  clear hw s0 w1 w2
  go_enter Tryd.func3, Tryd.ntmps3
  go_wp2_with fail
  refine M0.out.mono ?_
  rintro e w2 ⟨v, L, T, rfl, hI⟩
  have HI := Lib.hid hI
  generalize hn : min len0 30 = n at *
  have hn30 : n ≤ 30 := by omega
  have HLEN : Hid (L.length = n) := Lib.hid hI.len
  clear hI hn M0
  by_cases h2 : n < 2
  · obtain ⟨A, cA, hv, hA⟩ : ∃ A cA, v = .slice A n cA ∧ n ≤ cA := by
      rcases HI.out.own.2 with ⟨e, e0⟩ | ⟨g, cap, cur, e, _, _, h1, _⟩
      · exact ⟨none, 0, by rw [e, e0], by omega⟩
      · exact ⟨_, cap, e, h1⟩
    subst hv
    have HB := Lib.hid HI.out.below
    clear hA
    go_wp2_with fail
    refine (told_any _ (HW.out _ HB.out)).mono ?_
    rintro e wt ⟨rfl, hbt⟩
    go_wp2
    go_ret
    exact ⟨rfl, past HB.out hbt⟩
  have hown : ∃ g cA, v = .slice (some ⟨g, 0, none⟩) n cA := by
    rcases HI.out.own.2 with ⟨e, e0⟩ | ⟨g, cap, cur, e, _⟩
    · omega
    · exact ⟨g, cap, e⟩
  obtain ⟨g, cA, hv⟩ := hown
  subst hv
  obtain ⟨hS, hLn, hc, hm, hg1, hg2⟩ := Samps.own HI.out.own HI.out.bits
  obtain ⟨U, hU⟩ : ∃ U, IntKind.u64.wrap a1 = U := ⟨_, rfl⟩
  obtain ⟨q, hq, hqn⟩ := urem (a := a1) ((n : Int) - 1) (by omega)
  rw [hU] at hq
  obtain ⟨V, hV⟩ : ∃ V, IntKind.u64.wrap a2 = V := ⟨_, rfl⟩
  obtain ⟨p, hp, hpn⟩ := urem (a := a2) 9 (by decide)
  rw [hV] at hp
  have hn1 : IntKind.i64.wrap ((n : Int) - 1) = (n : Int) - 1 := by rw [IntKind.wrap_i64]; omega
  have hn2 : IntKind.u64.wrap ((n : Int) - 1) = (n : Int) - 1 := by rw [IntKind.wrap_u64]; omega
  have hn3 : (n : Int) - 1 ≠ 0 := by omega
  have hq2 : IntKind.i64.wrap (q : Int) = (q : Int) := by rw [IntKind.wrap_i64]; omega
  have hp2 : IntKind.i64.wrap (p : Int) = (p : Int) := by rw [IntKind.wrap_i64]; omega
  have hp3 : IntKind.i64.wrap (4 + (p : Int)) = 4 + (p : Int) := by rw [IntKind.wrap_i64]; omega
  have HS := Lib.hid hS
  have HB := Lib.hid HI.out.below
  have HR := Lib.hid HI.out.rise
  have HSM := Lib.hid (made_small HI.out (by omega))
  have HIN := Lib.hid HI.out.bits
  have HG := Lib.hid hg2
  obtain ⟨wl, hwl⟩ : ∃ wl, wl = w2.alloc (.cells #[] 28) := ⟨_, rfl⟩
  have WL := Lib.hid hwl
  have hBl : Below w2.heap.size w2 wl := by rw [hwl]; exact past_alloc (Below.refl _ _) _
  have OL : Hid (wl.ownsRow w.heap.size 28 2 (.slice (some ⟨w2.heap.size, 0, none⟩) 0 0) 0 []) := Lib.hid (by
    rw [hwl]
    exact World.ownsRow_lit w2 #[] 0 HB.out.size (by decide) rfl)
  have NL : Hid (∀ j u, (sampV L)[j]? = some u → wl.cell? ((⟨g, 0, none⟩ : Addr).add j) = some u) := Lib.hid (hS.below hBl).news
  have LL : Hid ((sampV L).length = n * 2) := Lib.hid (by rw [sampV_length, HLEN.out])
  have BL : Hid (Below w.heap.size w wl) := Lib.hid (past HB.out hBl)
  have hnot : ¬ n < 2 := h2
  have HBL := Lib.hid hBl
  clear hwl hBl hS hLn hg1 hg2
  unfold maxLen at hm
  obtain ⟨i0, hi, hz0, hz1, hz2⟩ := info_parts Tryd.info28
  go_wp2_with (at_builtin; rw [← WL.out]; refine wpList_append_lies _ rfl _ _ 23 rfl w.heap.size 28 i0 (.agg #[.int .i64 0, .int .i64 0]) 2 16 Tryd.underlying23 hi hz0 hz1 hz2 rfl (by decide) _ 0 [] rfl OL.out ⟨g, 0, none⟩ n cA (sampV L) rfl LL.out NL.out (sampV_one L) (by omega) (by unfold maxLen; omega) (by omega) BL.out.size _ rfl ?_)
  intro gm cm wa hown hgrow hat hltg
  have hownm : wa.ownsRow w.heap.size 28 2 (.slice (some ⟨gm, 0, none⟩) n cm) n (sampV L) := hown
  have hBa : Below w2.heap.size w2 wa := HBL.out.grown hgrow HBL.out.size (fun k h => Nat.le_of_eq (Option.some.inj h))
  have hgm : gm ≠ g := by
    have h1 := HG.out
    have h2 := HBL.out.size
    rcases hat with hat | hat
    · have hat : w2.heap.size = gm := Option.some.inj hat
      omega
    · omega
  have hwgm : w.heap.size ≤ gm := by
    have h0 := HB.out.size
    have h2 := HBL.out.size
    rcases hat with hat | hat
    · have hat : w2.heap.size = gm := Option.some.inj hat
      omega
    · omega
  have hSa := HS.out.below hBa
  obtain ⟨bS, oS, eS, hcS⟩ := hSa.2 (by rw [HLEN.out]; omega)
  injection eS with eS
  injection eS with eS1 eS2
  subst eS1 eS2
  have c1 := hcS q (by rw [HLEN.out]; omega)
  have c2 := hcS (q + 1) (by rw [HLEN.out]; omega)
  obtain ⟨hSm, hLm, hcm, hmm, _, hgml⟩ := Samps.own hownm HIN.out
  obtain ⟨bM, oM, eM, hcM⟩ := hSm.2 (by rw [HLEN.out]; omega)
  injection eM with eM
  injection eM with eM1 eM2
  subst eM1 eM2
  have d1 := hcM q (by rw [HLEN.out]; omega)
  have d2 := hcM (q + 1) (by rw [HLEN.out]; omega)
  have hfall := swap_fall (l := L) (q := q) (by rw [HLEN.out]; omega) HR.out
  have hswin := swap_in (l := L) (q := q) (by rw [HLEN.out]; omega) HIN.out
  have hset := sampV_set2 L (L.getD (q + 1) (0, 0)).1 (L.getD (q + 1) (0, 0)).2 q (by rw [HLEN.out]; omega)
  have hset2 := sampV_set2 (L.set q (L.getD (q + 1) (0, 0))) (L.getD q (0, 0)).1 (L.getD q (0, 0)).2 (q + 1) (by rw [List.length_set, HLEN.out]; omega)
  have f1 := hownm.frozenAt (q * 2)
  have f2 := hownm.frozenAt (q * 2 + 1)
  have f3 := hownm.frozenAt ((q + 1) * 2)
  have f4 := hownm.frozenAt ((q + 1) * 2 + 1)
  have hst := (((hownm.stored (q * 2) (.int .i64 (L.getD (q + 1) (0, 0)).1)).1.stored (q * 2 + 1) (.int .i64 (L.getD (q + 1) (0, 0)).2)).1.stored ((q + 1) * 2) (.int .i64 (L.getD q (0, 0)).1)).1.stored ((q + 1) * 2 + 1) (.int .i64 (L.getD q (0, 0)).2)
  rw [hset, hset2] at hst
  have hst' := hst.1
  generalize L.getD q (0, 0) = sq at *
  generalize L.getD (q + 1) (0, 0) = sr at *
  obtain ⟨tq, vq⟩ := sq
  obtain ⟨tr, vr⟩ := sr
  simp only [Nat.zero_add] at c1 c2 d1 d2 hst'
  obtain ⟨c1, c1'⟩ := c1
  obtain ⟨c2, c2'⟩ := c2
  obtain ⟨d1, d1'⟩ := d1
  obtain ⟨d2, d2'⟩ := d2
  have HST := Lib.hid hst'
  have HFALL := Lib.hid hfall
  have HSWIN := Lib.hid hswin
  have HBA := Lib.hid hBa
  have HBS : Hid (Below w2.heap.size w2 ((((wa.setCell ⟨gm, q * 2, none⟩ (.int .i64 tr)).setCell ⟨gm, q * 2 + 1, none⟩ (.int .i64 vr)).setCell ⟨gm, (q + 1) * 2, none⟩ (.int .i64 tq)).setCell ⟨gm, (q + 1) * 2 + 1, none⟩ (.int .i64 vq))) := Lib.hid (by
    have h : w2.heap.size ≤ gm := by
      have h2 := HBL.out.size
      rcases hat with hat | hat
      · have hat : w2.heap.size = gm := Option.some.inj hat
        omega
      · omega
    exact (((hBa.setCell h _).setCell h _).setCell h _).setCell h _)
  have i1 : (0 : Int) ≤ (q : Int) := by omega
  have i2 : (q : Int) < (n : Int) := by omega
  have i3 : (0 : Int) ≤ (q : Int) + 1 := by omega
  have i4 : (q : Int) + 1 < (n : Int) := by omega
  have i5 : ((q : Int) + 1).toNat = q + 1 := by omega
  have i6 : IntKind.i64.wrap ((q : Int) + 1) = (q : Int) + 1 := by rw [IntKind.wrap_i64]; omega
  have hgm' : g ≠ gm := fun e => hgm e.symm
  simp only [Nat.zero_add] at *
  clear hown hgrow hat hltg hownm hBa hSa hcS hSm hLm hcM hfall hswin hset hset2 hst hst' WL OL NL LL BL HBL hwgm hgml
  go_wp2_with fail
  go_region
  have HST2 : Hid ((((((wa.setCell ⟨gm, q * 2, none⟩ (.int .i64 tr)).setCell ⟨gm, q * 2 + 1, none⟩ (.int .i64 vr)).setCell ⟨gm, (q + 1) * 2, none⟩ (.int .i64 tq)).setCell ⟨gm, (q + 1) * 2 + 1, none⟩ (.int .i64 vq)).drew).ownsRow w.heap.size 28 2 (.slice (some ⟨gm, 0, none⟩) n cm) n (sampV ((L.set q (tr, vr)).set (q + 1) (tq, vq))) ∧
      Below w2.heap.size w2 (((((wa.setCell ⟨gm, q * 2, none⟩ (.int .i64 tr)).setCell ⟨gm, q * 2 + 1, none⟩ (.int .i64 vr)).setCell ⟨gm, (q + 1) * 2, none⟩ (.int .i64 tq)).setCell ⟨gm, (q + 1) * 2 + 1, none⟩ (.int .i64 vq)).drew)) := Lib.hid ⟨own_below HST.out (belowN _ 1), past HBS.out (belowN _ 1)⟩
  clear HST HBS HBA c1 c1' c2 c2' d1 d1' d2 d2' f1 f2 f3 f4 i1 i2 i3 i4 i5 i6 hgm hgm'
  generalize (((((wa.setCell ⟨gm, q * 2, none⟩ (.int .i64 tr)).setCell ⟨gm, q * 2 + 1, none⟩ (.int .i64 vr)).setCell ⟨gm, (q + 1) * 2, none⟩ (.int .i64 tq)).setCell ⟨gm, (q + 1) * 2 + 1, none⟩ (.int .i64 vq)).drew) = ws at *
  have HM : Hid (∀ w', Below ws.heap.size ws w' → Samps w' (some ⟨gm, 0, none⟩) ((L.set q (tr, vr)).set (q + 1) (tq, vq))) := Lib.hid (fun w' hb => (Samps.own HST2.out.1 HSWIN.out).1.below hb)
  have HLM : Hid (((L.set q (tr, vr)).set (q + 1) (tq, vq)).length = n) := Lib.hid (by rw [List.length_set, List.length_set, HLEN.out])
  have HL2 : Hid (∀ w', Below ws.heap.size ws w' → Samps w' (some ⟨g, 0, none⟩) L) := Lib.hid (fun w' hb => (HS.out.below HST2.out.2).below hb)
  have HWS : Hid (∀ w', Below ws.heap.size ws w' → Wid w') := Lib.hid (fun w' hb => HW.out w' (past HB.out (past HST2.out.2 hb)))
  have HBW : Hid (Below w.heap.size w ws) := Lib.hid (past HB.out HST2.out.2)
  have C1 : Hid (∀ w', Below ws.heap.size ws w' → Calls Tryd.prog 11 #[.slice (some ⟨gm, 0, none⟩) n cm, .int .i64 1] w' (Gives w' ([], 1))) := Lib.hid (fun w' hb => by
    have := raw_any 1 HLM.out (HM.out w' hb) hcm hmm (by decide) (HWS.out w' hb) (by omega)
    rwa [show raw ((L.set q (tr, vr)).set (q + 1) (tq, vq)) 1 = ([], 1) from if_neg (fun h => HFALL.out h.2)] at this)
  have C2 : Hid (∀ w', Below ws.heap.size ws w' → Calls Tryd.prog 11 #[.slice (some ⟨g, 0, none⟩) n cA, .int .i64 (4 + (p : Int))] w' (Gives w' ([], 1))) := Lib.hid (fun w' hb => by
    have := raw_any (4 + (p : Int)) HLEN.out (HL2.out w' hb) hc hm (by unfold In64; omega) (HWS.out w' hb) (by omega)
    rwa [show raw L (4 + (p : Int)) = ([], 1) from if_neg (fun h => by have := h.1; unfold coarse at this; omega)] at this)
  have C3 : Hid (∀ w', Below ws.heap.size ws w' → Calls Tryd.prog 11 #[.slice (some ⟨g, 0, none⟩) n cA, .int .i64 1] w' (Gives w' (wins 1 L, 0))) := Lib.hid (fun w' hb => by
    have := raw_any 1 HLEN.out (HL2.out w' hb) hc hm (by decide) (HWS.out w' hb) (by omega)
    rwa [raw_wins (by decide) (by rw [HLEN.out]; omega) HR.out HSM.out] at this)
  have CR : Hid (∀ w', Below ws.heap.size ws w' → Calls Tryd.prog 14 #[.slice (some ⟨gm, 0, none⟩) n cm] w' fun e w'' => e = .returned (.bool false) ∧ Below w'.heap.size w' w'') := Lib.hid (fun w' hb => by
    have := rising_any HLM.out (HM.out w' hb) hcm hmm
    rwa [decide_eq_false HFALL.out] at this)
  have hlw := wins_length (k := 1) (by decide) (by rw [HLEN.out]; omega) HR.out HSM.out
  rw [HLEN.out] at hlw
  have hdw := down_any_wins (k := 3) (by rw [HLEN.out]; omega) HR.out HSM.out (by decide)
  obtain ⟨D, hD⟩ : ∃ D, down (wins 1 L) 3 = D := ⟨_, rfl⟩
  have C4 : Hid (∀ w' A c, Below ws.heap.size ws w' → RowOf w' A (wins 1 L).length c (wins 1 L) → Calls Tryd.prog 12 #[.slice A (wins 1 L).length c, .int .i64 3] w' (Gives w' D)) := Lib.hid (fun w' A c hb h => by
    rw [← hD]
    exact down_any 3 h (by decide) (HWS.out w' hb) (by omega))
  have C5 : Hid (∀ w' A c, Below ws.heap.size ws w' → RowOf w' A (wins 1 L).length c (wins 1 L) → Calls Tryd.prog 13 #[.slice A (wins 1 L).length c, .int .i64 2] w' fun e w'' => e = .returned (.bool (decide (Align (wins 1 L) 2))) ∧ Below w'.heap.size w' w'') := Lib.hid (fun w' A c hb h =>
    aligned_any 2 h.1 h.2.1 h.2.2.1 h.2.2.2.1 (by decide) (HWS.out w' hb))
  rw [hD] at hdw
  generalize wins 1 L = X at *
  clear hD HM HLM HL2 HST2 HI HFALL HSWIN HS HR HSM HIN HG
  obtain ⟨m, hm1⟩ : ∃ m, X.length = m := ⟨_, rfl⟩
  rw [hm1] at hlw C4 C5
  have hm0 : 0 < m := hlw.2 (by omega)
  have hm0' : (0 : Int) < (m : Int) := by omega
  go_wp2_with fail
  refine (C1.out _ (Below.refl _ _)).mono ?_
  rintro e w3 ⟨A3, c3, rfl, hb3, hr3⟩
  have HB3 := Lib.hid hb3
  clear hb3 hr3
  go_wp2_with fail
  refine (C2.out _ HB3.out).mono ?_
  rintro e w4 ⟨A4, c4, rfl, hb4, hr4⟩
  have HB4 := Lib.hid (past HB3.out hb4)
  clear hb4 hr4
  go_wp2_with fail
  refine (C3.out _ HB4.out).mono ?_
  rintro e w5 ⟨A5, c5, rfl, hb5, hr5⟩
  have HB5 := Lib.hid (past HB4.out hb5)
  have HR5 : Hid (RowOf w5 A5 m c5 X) := Lib.hid (by rw [← hm1]; exact hr5)
  simp only [hm1]
  clear hb5 hr5 hm1
  go_wp2_with fail
  refine (C4.out _ _ _ HB5.out HR5.out).mono ?_
  rintro e w6 ⟨A6, c6, rfl, hb6, hr6⟩
  have HB6 := Lib.hid (past HB5.out hb6)
  have HR6 : Hid (RowOf w6 A5 m c5 X) := Lib.hid (HR5.out.below hb6)
  clear hb6 hr6
  obtain ⟨D1, D2⟩ := D
  simp only at hdw
  go_wp2_with fail
  refine (told_any _ (HWS.out _ HB6.out)).mono ?_
  rintro e w7 ⟨rfl, hb7⟩
  have HB7 := Lib.hid (past HB6.out hb7)
  have HR7 : Hid (RowOf w7 A5 m c5 X) := Lib.hid (HR6.out.below hb7)
  clear hb7
  by_cases hal : Align X 2
  · obtain rfl : D2 = 0 := hdw.1 hal
    rw [decide_eq_true hal] at C5
    clear hdw hal
    go_wp2_with fail
    refine (C5.out _ _ _ HB7.out HR7.out).mono ?_
    rintro e w8 ⟨rfl, hb8⟩
    have HB8 := Lib.hid (past HB7.out hb8)
    clear hb8
    go_wp2_with fail
    refine (CR.out _ HB8.out).mono ?_
    rintro e w9 ⟨rfl, hb9⟩
    go_wp2
    go_ret
    exact ⟨rfl, past HBW.out (past HB8.out hb9)⟩
  · have hd := hdw.2 hal
    injection hd with hd1 hd2
    subst hd1 hd2
    rw [decide_eq_false hal] at C5
    clear hdw hal
    go_wp2_with fail
    refine (C5.out _ _ _ HB7.out HR7.out).mono ?_
    rintro e w8 ⟨rfl, hb8⟩
    have HB8 := Lib.hid (past HB7.out hb8)
    clear hb8
    go_wp2_with fail
    refine (CR.out _ HB8.out).mono ?_
    rintro e w9 ⟨rfl, hb9⟩
    go_wp2
    go_ret
    exact ⟨rfl, past HBW.out (past HB8.out hb9)⟩
end Go.Proofs.YtoccmklbjabaaaaDoor.tierWrong
