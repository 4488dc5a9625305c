/-
  The walk of HeadSeals: it returns true, and writes nothing that was there.
-/
import Derived.Test.YtinplchaimejbaaHArgs
namespace Go.Proofs.Ytinplchaimejbaa.headSeals
open Go.RowKit
attribute [local go_sem ↓] Go.wp_at_zero Go.wp_at_succ
set_option linter.unusedVariables false

/-- The head, amid: made of the samples S, each of a time below a hundred. -/
structure SInv (w wr : World) (i : Nat) (S : List (Int × Int)) (h : Hd) (A : Option Addr) (n cap : Nat) : Prop where
  made : Made (fun _ => 0) S h
  cnt : S.length = i
  low : ∀ s ∈ S, s.1 < 100
  at_ : HIs wr (w.heap.size + 1) w.heap.size h A n cap
  below : Below w.heap.size w wr
theorem SInv.step {w wr w2 : World} {i n n' : Nat} {S : List (Int × Int)} {h : Hd} {A A' : Option Addr} {cap cap' : Nat} {t : Int} (H : SInv w wr i S h A n cap) (ht : inT t) (h100 : t < 100) (hi : i < 20)
    (hn : (putH h (t, 0)).1.l.length = n') (ho : Out wr w2 wr.heap.size A' cap' (putH h (t, 0)).1.l) :
    SInv w ((w2.setCell ⟨w.heap.size, 0, none⟩ (.int .i64 h.sl)).setCell ⟨w.heap.size, 1, none⟩ (.slice A' n' cap')) (i + 1) (S ++ [(t, 0)]) (putH h (t, 0)).1 A' n' cap' := by
  have hl := H.at_.v.lt
  refine ⟨H.made.put ht (by have := H.cnt; omega), by rw [List.length_append, H.cnt]; rfl, fun s hs => ?_, ?_, ?_⟩
  · rw [List.mem_append, List.mem_singleton] at hs
    rcases hs with hs | rfl
    · exact H.low s hs
    · exact h100
  · have h2 := HIs.store (h := (putH h (t, 0)).1) (B := w.heap.size + 1) (F := wr.heap.size) (g := w.heap.size) (H.at_.v.below ho.below) ho.row hn ho.fresh (by omega) hl
    rw [putH_sl] at h2
    exact h2
  · exact (((past H.below ho.below).setCell (Nat.le_refl _) _).setCell (Nat.le_refl _) _)

theorem may_nil {T : Int} (h0 : 0 ≤ T) (h1 : T ≤ 1000) : Hd.may ⟨T, []⟩ := ⟨h0, by simp only; omega, fun i hi => by simp at hi, by simp, fun s hs => by simp at hs⟩
theorem put_nil {T m : Int} (u : World) (h0 : 0 ≤ T) (h1 : T ≤ 1000) (hm0 : 0 ≤ m) (hm1 : m ≤ 1000) :
    Calls Try.prog 8 #[.agg #[.int .i64 T, .slice none 0 0], .agg #[.int .i64 m, .int .i64 0]] u fun e w' => ∃ A' cap' n', e = .returned (.tuple #[.agg #[.int .i64 T, .slice A' n' cap'], .int .i64 (if m < T then 6 else 0)]) ∧ n' = (if m < T then 0 else 1) ∧ Below u.heap.size u w' := by
  have hin : inT (m, (0 : Int)).1 := by unfold inT; simp only; omega
  have hp : (putH ⟨T, []⟩ (m, 0)).2 = (if m < T then 6 else 0) ∧ (putH ⟨T, []⟩ (m, 0)).1.l.length = (if m < T then 0 else 1) := by
    rcases put_cases (s := (m, 0)) (may_nil h0 h1) hin with ⟨h, e⟩ | ⟨_, h, e⟩ | ⟨_, _, h, e⟩ | ⟨h, _, _, e⟩
    · simp only at h
      rw [e, if_pos h, if_pos h]
      exact ⟨rfl, rfl⟩
    · obtain ⟨s, hs, _⟩ := h
      simp at hs
    · simp at h
    · simp only at h
      rw [e, if_neg (by omega), if_neg (by omega)]
      exact ⟨rfl, rfl⟩
  refine (put_any (S := T) (t := m) (v := 0) (Row.none u) rfl (may_nil h0 h1) hin (by decide)).mono ?_
  rintro e w' ⟨A', cap', n', rfl, hn, ho⟩
  rw [hp.1]
  exact ⟨A', cap', n', rfl, by rw [← hn, hp.2], ho.below⟩

set_option maxRecDepth 100000 in
set_option maxHeartbeats 1000000 in
theorem walk (a0 : Option Addr) (len0 cap0 : Nat) (z0 : List Int) (a1 : Int) (w : World) (w0 : IsRow .i64 w a0 len0 cap0 z0) (w1 : (Lit.int .i64 a1).wf = true) :
    Calls Try.prog 7 #[.slice a0 len0 cap0, .int .i64 a1] w fun e w' => e = .returned (.bool true) ∧ Below w.heap.size w w' := by
  obtain ⟨l0, hI0⟩ := ints_of_row w0
  obtain ⟨z, hz, hz0, hz1⟩ := wrap_u64_rem (a := a1) 5 (by decide)
  obtain ⟨Z, hZ⟩ : ∃ Z, IntKind.u64.wrap a1 = Z := ⟨_, rfl⟩
  rw [hZ] at hz
  have S0 := Lib.hid hI0
  have hmx : len0 ≤ 9223372036854775807 := by have h1 := hI0.2.2.2.1; have h2 := hI0.2.2.2.2.1; unfold maxLen at h2; omega
  clear w0 w1 hI0
  obtain ⟨M, hM⟩ : ∃ M, M = min len0 20 := ⟨_, rfl⟩
  have HM := Lib.hid hM
  have hM20 : M ≤ 20 := by omega
  have hMl : M ≤ len0 := by omega
  have hMe : M = len0 ∨ M = 20 := by omega
  have HME := Lib.hid hMe
  clear hM hMe
  go_enter Try.func7, Try.ntmps7
  go_wp2
  go_loopw [6] (fun si wr => ∃ (i : Nat), i ≤ M ∧ si = .int .i64 (i : Int) ∧ Hid (∃ S h A n cap, SInv w wr i S h A n cap)) (fun si _ => M - (intOf si).toNat)
  case atStart => exact ⟨0, by omega, rfl, Lib.hid ⟨[], Hd.none, none, 0, 0, Made.none _, rfl, fun s hs => by simp at hs, ⟨HVar.new _ _ _ _, Row.none _, rfl, fun a e => by cases e⟩, below_box _ _⟩⟩
  case round =>
    obtain ⟨i, hi, rfl, HE⟩ := hrel
    obtain ⟨S, ⟨hs, hl⟩, A, n, cap, hI⟩ := HE.out
    have HI := Lib.hid hI
    clear hI HE
    by_cases hlt : i < M
    · obtain ⟨b, off, rfl, hcell⟩ := S0.out.2.2.1 (by omega)
      have c := hcell i (by omega)
      rw [← HI.out.below.cell (World.block_lt_of_cell? w _ c)] at c
      generalize l0.getD i 0 = T at c
      clear hcell
      obtain ⟨x, hx, hx0, hx1⟩ := wrap_u64_rem (a := T) 100 (by decide)
      obtain ⟨U, hU⟩ : ∃ U, IntKind.u64.wrap T = U := ⟨_, rfl⟩
      rw [hU] at hx
      have k1 : IntKind.i64.wrap x = x := by rw [IntKind.wrap_i64]; omega
      have i2 : (i : Int) < (len0 : Int) := by omega
      have i3 : (i : Int) < 20 := by omega
      have i4 : (0 : Int) ≤ (i : Int) := by omega
      have hin : inT x := by unfold inT; omega
      have HS := Lib.hid (fun w2 A' cap' n' (hn : (putH ⟨hs, hl⟩ (x, 0)).1.l.length = n') (ho : Out wr w2 wr.heap.size A' cap' (putH ⟨hs, hl⟩ (x, 0)).1.l) => HI.out.step hin hx1 (by omega) hn ho)
      have MP := Lib.hid (fun w' (hb : Below wr.heap.size wr w') => (HI.out.at_.below hb).puts HI.out.made.may hin (v := 0) (by decide))
      have HV := Lib.hid HI.out.at_.v
      have HB := Lib.hid HI.out.below
      obtain ⟨c0, c1, f0, f1⟩ := HV.out
      dsimp only at c0 HS MP HV
      go_upto_region 5 with fail
      go_region_with (first
        | (go_at_call 8; refine (MP.out _ (belowN _ 1)).mono ?_; rintro e wt ⟨A', cap', n', rfl, hn, ho⟩; obtain ⟨y0, y1, y2, y3⟩ := HV.out.below (past (belowN wr 1) ho.below)))
      all_goals
        have HN : Hid (∃ S h A n cap, SInv w ((wt.setCell ⟨w.heap.size, 0, none⟩ (.int .i64 hs)).setCell ⟨w.heap.size, 1, none⟩ (.slice A' n' cap')) (i + 1) S h A n cap) := Lib.hid ⟨_, _, _, _, _, HS.out wt A' cap' n' hn (ho.start (belowN _ 1))⟩
        clear hn ho y0 y1 y2 y3 c0 c1 f0 f1 c HS MP HV HB
        go_wp2
        go_roundw
        case rel => exact ⟨i + 1, by omega, by go_num, HN⟩
        case measure => simp [intOf]; omega
    · obtain rfl : i = M := by omega
      have HMD := Lib.hid HI.out.made
      have HLO : Hid (∀ s ∈ hl, s.1 < 100) := Lib.hid (fun s hs => HI.out.low s ((HI.out.made.mem s).1 hs))
      have HAT := Lib.hid HI.out.at_
      have HBE := Lib.hid HI.out.below
      obtain rfl : hs = 0 := HMD.out.sl
      have hlen := HAT.out.len
      dsimp only at hlen
      have HLN := Lib.hid hlen
      have c0 := HAT.out.v.c0
      have c1 := HAT.out.v.c1
      dsimp only at c0 c1
      clear hlen
      by_cases h0 : n = 0
      · subst h0
        obtain rfl : hl = [] := List.length_eq_zero_iff.1 HLN.out
        have MS := Lib.hid (seal_none HAT.out.row HMD.out.may)
        have hE : ¬ (i : Int) < (len0 : Int) ∨ ((i : Int) < (len0 : Int) ∧ ¬ (i : Int) < 20) := by have := HME.out; omega
        rcases hE with hE | ⟨hE, hE2⟩
        all_goals
          go_wp2_with fail
          refine MS.out.mono ?_
          rintro e w2 ⟨A2, cap2, rfl, ho⟩
          have HR2 : Hid (∀ o, Row (w2.alloc o) A2 cap2 []) := Lib.hid (fun o => ho.row.below (below_box _ _))
          have HA2 : Hid (∀ o, HIs (w2.alloc o) (w.heap.size + 1) w.heap.size ⟨0, []⟩ A 0 cap) := Lib.hid (fun o => (HAT.out.below ho.below).below (below_box _ _))
          have HB2 : Hid (∀ o, Below w.heap.size w (w2.alloc o)) := Lib.hid (fun o => past_alloc (past HBE.out ho.below) o)
          have HVN : Hid (HVar (w2.alloc (.cells #[.int .i64 0, .slice A2 0 cap2] 25)) w2.heap.size (.int .i64 0) (.slice A2 0 cap2)) := Lib.hid (HVar.new _ _ _ _)
          clear ho c0 c1
          go_upto_region 7 with fail
          have HR3 := Lib.hid (HR2.out (.cells #[.int .i64 0, .slice A2 0 cap2] 25))
          have HA3 := Lib.hid (HA2.out (.cells #[.int .i64 0, .slice A2 0 cap2] 25))
          have HB3 := Lib.hid (HB2.out (.cells #[.int .i64 0, .slice A2 0 cap2] 25))
          generalize w2.alloc (.cells #[.int .i64 0, .slice A2 0 cap2] 25) = w3 at *
          generalize w2.heap.size = ga at *
          clear HR2 HA2 HB2
          have c0 := HA3.out.v.c0
          have c1 := HA3.out.v.c1
          go_wp2_with fail
          refine (told_any _).mono ?_
          rintro e w4 ⟨rfl, hb⟩
          have HA4 := Lib.hid (HA3.out.below hb)
          have HR4 := Lib.hid (HR3.out.below hb)
          have HV4 := Lib.hid (HVN.out.below hb)
          have HB4 := Lib.hid (past HB3.out hb)
          clear hb c0 c1 HA3 HR3 HVN HB3
          have c0 := HA4.out.v.c0
          have c1 := HA4.out.v.c1
          have d0 := HV4.out.c0
          have d1 := HV4.out.c1
          dsimp only at c0
          go_wp2_with fail
          refine (same_any HR4.out HA4.out.row rfl).mono ?_
          rintro e w5 ⟨rfl, hb⟩
          have HB5 := Lib.hid (past HB4.out hb)
          clear hb c0 c1 d0 d1
          go_wp2
          (try rw [Exit.noGoto_ret])
          go_ret
          exact ⟨rfl, HB5.out⟩
      · have hpos : 0 < n := by omega
        have hT := HMD.out.may.2.2.2.2 (hl.getD (n - 1) (0, 0)) (sample_mem (by rw [HLN.out]; omega))
        have hT2 := HLO.out (hl.getD (n - 1) (0, 0)) (sample_mem (by rw [HLN.out]; omega))
        have MS := Lib.hid (seal_some HAT.out.row HLN.out hpos HMD.out.may)
        obtain ⟨T, hTT⟩ : ∃ T, T = lastT hl := ⟨_, rfl⟩
        rw [show (hl.getD (n - 1) (0, 0)).1 = T by rw [hTT, lastT, HLN.out]] at hT hT2
        rw [← hTT] at MS
        dsimp only at hT
        clear hTT
        have MS2 := Lib.hid (fun u => seal_none (S := T + 1) (Row.none u) ⟨by simp only; omega, by simp only; omega, fun i hi => by simp at hi, by simp, fun s hs => by simp at hs⟩)
        obtain ⟨m, hm⟩ : ∃ m, m = max (T + 1 - 2 + z) 0 := ⟨_, rfl⟩
        have hmx : ∀ ts t W, (Builtin.max_ ts t #[.int .i64 (T + 1 - 2 + z), .int .i64 0]).run Try.prog W = .ok (.int .i64 m) W := fun ts t W => by
          rw [hm]
          exact Lib.run_max_ints W ts t .i64 .i64 _ _
        have MP := Lib.hid (fun u => put_nil (T := T + 1) (m := m) u (by omega) (by omega) (by omega) (by omega))
        have hE : ¬ (i : Int) < (len0 : Int) ∨ ((i : Int) < (len0 : Int) ∧ ¬ (i : Int) < 20) := by have := HME.out; omega
        have k1 : IntKind.i64.wrap (T + 1 - 2) = T + 1 - 2 := by rw [IntKind.wrap_i64]; omega
        have k2 : IntKind.i64.wrap z = z := by rw [IntKind.wrap_i64]; omega
        have k3 : IntKind.i64.wrap (T + 1 - 2 + z) = T + 1 - 2 + z := by rw [IntKind.wrap_i64]; omega
        have n0 : ((n : Int) == 0) = false := by simp; omega
        clear hm
        rcases hE with hE | ⟨hE, hE2⟩
        all_goals
          go_wp2_with fail
          refine MS.out.mono ?_
          rintro e w2 ⟨A2, cap2, rfl, ho⟩
          have HA2 : Hid (∀ o, HIs (w2.alloc o) (w.heap.size + 1) w.heap.size ⟨0, hl⟩ A n cap) := Lib.hid (fun o => (HAT.out.below ho.below).below (below_box _ _))
          have HB2 : Hid (∀ o, Below w.heap.size w (w2.alloc o)) := Lib.hid (fun o => past_alloc (past HBE.out ho.below) o)
          have HVN : Hid (HVar (w2.alloc (.cells #[.int .i64 (T + 1), .slice none 0 0] 25)) w2.heap.size (.int .i64 (T + 1)) (.slice none 0 0)) := Lib.hid (HVar.new _ _ _ _)
          clear ho c0 c1
          go_upto_region 7 with fail
          have HA3 := Lib.hid (HA2.out (.cells #[.int .i64 (T + 1), .slice none 0 0] 25))
          have HB3 := Lib.hid (HB2.out (.cells #[.int .i64 (T + 1), .slice none 0 0] 25))
          generalize w2.alloc (.cells #[.int .i64 (T + 1), .slice none 0 0] 25) = w3 at *
          generalize w2.heap.size = ga at *
          clear HA2 HB2
          have c0 := HA3.out.v.c0
          have c1 := HA3.out.v.c1
          have d0 := HVN.out.c0
          have d1 := HVN.out.c1
          go_wp2_with fail
          refine (MS2.out _).mono ?_
          rintro e w4 ⟨A4, cap4, rfl, ho⟩
          have HA4 : Hid (∀ o, HIs (w4.alloc o) (w.heap.size + 1) w.heap.size ⟨0, hl⟩ A n cap) := Lib.hid (fun o => (HA3.out.below ho.below).below (below_box _ _))
          have HB4 : Hid (∀ o, Below w.heap.size w (w4.alloc o)) := Lib.hid (fun o => past_alloc (past HB3.out ho.below) o)
          have HV4 : Hid (∀ o, HVar (w4.alloc o) ga (.int .i64 (T + 1)) (.slice none 0 0)) := Lib.hid (fun o => (HVN.out.below ho.below).below (below_box _ _))
          clear ho c0 c1 d0 d1 HA3 HB3 HVN
          go_upto_region 10 with fail
          have HA5 := Lib.hid (HA4.out (.cells #[.int .i64 (T + 1), .slice A4 0 cap4] 25))
          have HB5 := Lib.hid (HB4.out (.cells #[.int .i64 (T + 1), .slice A4 0 cap4] 25))
          have HV5 := Lib.hid (HV4.out (.cells #[.int .i64 (T + 1), .slice A4 0 cap4] 25))
          generalize w4.alloc (.cells #[.int .i64 (T + 1), .slice A4 0 cap4] 25) = w5 at *
          clear HA4 HB4 HV4
          have d0 := HV5.out.c0
          have d1 := HV5.out.c1
          go_wp2_with fail
          refine (MP.out _).mono ?_
          rintro e w6 ⟨A6, cap6, n6, rfl, hn6, hb⟩
          have HA6 : Hid (∀ o, HIs (w6.alloc o) (w.heap.size + 1) w.heap.size ⟨0, hl⟩ A n cap) := Lib.hid (fun o => (HA5.out.below hb).below (below_box _ _))
          have HB6 : Hid (∀ o, Below w.heap.size w (w6.alloc o)) := Lib.hid (fun o => past_alloc (past HB5.out hb) o)
          have HVB : Hid (HVar (w6.alloc (.cells #[.int .i64 (T + 1), .slice A6 n6 cap6] 25)) w6.heap.size (.int .i64 (T + 1)) (.slice A6 n6 cap6)) := Lib.hid (HVar.new _ _ _ _)
          clear hb d0 d1 HA5 HB5 HV5
          obtain ⟨cd, hcd⟩ : ∃ cd : Int, cd = if m < T + 1 then 6 else 0 := ⟨_, rfl⟩
          rw [← hcd]
          have HCD := Lib.hid hcd
          have HN6 := Lib.hid hn6
          clear hcd hn6
          go_upto_region 12 with fail
          have HA7 := Lib.hid (HA6.out (.cells #[.int .i64 (T + 1), .slice A6 n6 cap6] 25))
          have HB7 := Lib.hid (HB6.out (.cells #[.int .i64 (T + 1), .slice A6 n6 cap6] 25))
          generalize w6.alloc (.cells #[.int .i64 (T + 1), .slice A6 n6 cap6] 25) = w7 at *
          generalize w6.heap.size = gb at *
          clear HA6 HB6
          go_wp2_with fail
          refine (told_any _).mono ?_
          rintro e w8 ⟨rfl, hb⟩
          have HB8 := Lib.hid (past HB7.out hb)
          have c0 := (HA7.out.below hb).v.c0
          have c1 := (HA7.out.below hb).v.c1
          have d0 := (HVB.out.below hb).c0
          have d1 := (HVB.out.below hb).c1
          dsimp only at c0
          clear hb HB7 HA7 HVB
          by_cases hmT : m < T + 1
          · have e1 := HCD.out
            have e2 := HN6.out
            rw [if_pos hmT] at e1 e2
            subst e1 e2
            go_wp2
            (try rw [Exit.noGoto_ret])
            go_ret
            exact ⟨rfl, HB8.out⟩
          · have e1 := HCD.out
            have e2 := HN6.out
            rw [if_neg hmT] at e1 e2
            subst e1 e2
            have HDm := Lib.hid (decide_eq_false hmT)
            go_wp2
            (try rw [Exit.noGoto_ret])
            go_ret
            exact ⟨by rw [HDm.out]; rfl, HB8.out⟩
end Go.Proofs.Ytinplchaimejbaa.headSeals
