/-
  The walk of TierCounts: it returns true, and writes nothing that was there.
-/
import Derived.Test.YtoccmklbjabaaaaDoorTMid
namespace Go.Proofs.YtoccmklbjabaaaaDoor.tierCounts
open Go.RowKit
attribute [local go_sem ↓] Go.wp_at_zero Go.wp_at_succ
set_option linter.unusedVariables false

theorem take_succ_cns {X : List Ag} {j : Nat} (h : j < X.length) : cns (X.take (j + 1)) = cns (X.take j) + (agAt X j).cn ∧ sms (X.take (j + 1)) = sms (X.take j) + (agAt X j).sm := by
  have e : agAt X j = X[j] := by simp [agAt, h]
  rw [List.take_succ_eq_append_getElem h, cns_append, sms_append, e]
  simp [cns, sms]
theorem cns_bound : ∀ {X : List Ag}, (∀ a ∈ X, Sm a) → -1000000000 * cns X ≤ sms X ∧ sms X ≤ 1000000000 * cns X
  | [], _ => by simp [cns, sms]
  | a :: r, h => by
    have ih := cns_bound (X := r) (fun x hx => h x (by simp [hx]))
    have ha := (h a (by simp)).2
    simp only [cns, sms]
    omega
theorem cns_take {X : List Ag} (h : ∀ a ∈ X, Sm a) (j : Nat) : 0 ≤ cns (X.take j) ∧ cns (X.take j) ≤ cns X ∧ -1000000000 * cns (X.take j) ≤ sms (X.take j) ∧ sms (X.take j) ≤ 1000000000 * cns (X.take j) := by
  have h1 : ∀ a ∈ X.take j, Sm a := fun a ha => h a (List.mem_of_mem_take ha)
  have h2 := (cns_mem (l := X.drop j) (fun a ha => h a (List.mem_of_mem_drop ha))).1
  have e : cns X = cns (X.take j) + cns (X.drop j) := by rw [← cns_append, List.take_append_drop]
  have h3 := cns_bound h1
  exact ⟨(cns_mem h1).1, by omega, h3.1, h3.2⟩

set_option maxRecDepth 100000 in
set_option maxHeartbeats 1000000 in
theorem walk (a0 : Option Addr) (len0 cap0 : Nat) (l0 : List Int) (a1 : Option Addr) (len1 cap1 : Nat) (l1 : List Int) (a2 : Int) (w : World) (s0 : Ints w a0 len0 cap0 l0) (s1 : Ints w a1 len1 cap1 l1) (w2 : (Lit.int .i64 a2).wf = true) (hw : Wid w) :
    Calls Tryd.prog 7 #[.slice a0 len0 cap0, .slice a1 len1 cap1, .int .i64 a2] w fun e w' => e = .returned (.bool true) ∧ Below w.heap.size w w' := by
  have M0 := Lib.hid (rise_any 60 (by omega) s0 s1)
  have HW : Hid (∀ w', Below w.heap.size w w' → Wid w') := Lib.hid (fun w' hb => hw.below hb)
  clear hw s0 s1 w2
  go_enter Tryd.func7, Tryd.ntmps7
  go_wp2_with fail
  refine M0.out.mono ?_
  rintro e w2 ⟨v, L, T, rfl, hI⟩
  generalize hn : min len0 60 = n at *
  have hn60 : n ≤ 60 := by omega
  have HLEN : Hid (L.length = n) := Lib.hid hI.len
  obtain ⟨A, cA, hv, hc, hm⟩ := made_form hI.own
  subst hv
  have HI : Hid (w2.ownsRow w.heap.size 28 2 (.slice A n cA) n (sampV (mid L 0)) ∧ Below w.heap.size w w2) := Lib.hid (by rw [mid_zero]; exact ⟨hI.own, hI.below⟩)
  have HIN := Lib.hid hI.bits
  have HR := Lib.hid (rise_bils hI.rise)
  unfold maxLen at hm
  clear hI hn M0
  obtain ⟨V, hV⟩ : ∃ V, IntKind.u64.wrap a2 = V := ⟨_, rfl⟩
  obtain ⟨p, hp, hp0, hpn⟩ : ∃ p : Int, V.tmod 3 = p ∧ 0 ≤ p ∧ p < 3 := by
    have h0 : 0 ≤ V := by rw [← hV, IntKind.wrap_u64]; omega
    exact ⟨_, rfl, Int.tmod_nonneg 3 h0, Int.tmod_lt_of_pos _ (by decide)⟩
  have hp2 : IntKind.i64.wrap p = p := by rw [IntKind.wrap_i64]; omega
  obtain ⟨K, hK⟩ : ∃ K, 1 + p = K := ⟨_, rfl⟩
  have hp3 : IntKind.i64.wrap (1 + p) = K := by rw [IntKind.wrap_i64]; omega
  have HK : Hid (coarse K) := Lib.hid (by unfold coarse; omega)
  have HSZ := Lib.hid (sumTo_zero L)
  clear hK
  go_wp2
  clear hV hp hp2 hp3
  go_loopw [9, 10] (fun su si wr => ∃ k : Nat, k ≤ n ∧ si = .int .i64 (k : Int) ∧ su = .int .i64 (sumTo L k) ∧ Hid (wr.ownsRow w.heap.size 28 2 (.slice A n cA) n (sampV (mid L k)) ∧ Below w.heap.size w wr)) (fun _ si _ => n - (intOf si).toNat)
  case atStart => exact ⟨0, by omega, rfl, by rw [HSZ.out], HI⟩
  case round =>
    obtain ⟨k, hk, rfl, rfl, HI⟩ := hrel
    by_cases hlt : k < n
    · obtain ⟨g, rfl, hgb⟩ := made_some HI.out.1 (by omega)
      have hkl : k < L.length := by rw [HLEN.out]; exact hlt
      obtain ⟨hSm, hlm, hcm, hmm, _, hgl⟩ := Samps.own HI.out.1 (mid_in L HIN.out k)
      obtain ⟨b', off', e', hcs⟩ := hSm.2 (by omega)
      injection e' with e'
      injection e' with e1 e2
      subst e1 e2
      have hc1 := (hcs k (by omega)).2
      rw [mid_get L k hkl] at hc1
      have hst := HI.out.1.stored (k * 2 + 1) (.int .i64 (bil (L.getD k (0, 0)).2))
      rw [sampV_set, ← mid_succ L k (L.getD k (0, 0)).1 (L.getD k (0, 0)).2 hkl rfl] at hst
      have hsb := sumTo_bound L k (by omega)
      have hss := sumTo_succ L k (L.getD k (0, 0)).1 (L.getD k (0, 0)).2 hkl rfl
      have hz := bil_lt (L.getD k (0, 0)).2
      have hfz := HI.out.1.frozenAt (k * 2 + 1)
      have hzv : (L.getD k (0, 0)).2.tmod 1000000000 = bil (L.getD k (0, 0)).2 := rfl
      generalize (L.getD k (0, 0)).2 = v at hc1 hst hz hzv hss
      generalize bil v = z at hst hz hzv hss
      have HST : Hid ((wr.setCell ⟨g, k * 2 + 1, none⟩ (.int .i64 z)).ownsRow w.heap.size 28 2 (.slice (some ⟨g, 0, none⟩) n cA) n (sampV (mid L (k + 1))) ∧ Below w.heap.size w (wr.setCell ⟨g, k * 2 + 1, none⟩ (.int .i64 z))) := Lib.hid ⟨hst.1, HI.out.2.setCell hgb _⟩
      have HSS := Lib.hid hss
      generalize sumTo L k = S at *
      have hsw : IntKind.i64.wrap (S + z) = S + z := by rw [IntKind.wrap_i64]; omega
      clear hss
      have i1 : (0 : Int) ≤ (k : Int) := by omega
      have i2 : (k : Int) < (n : Int) := by omega
      clear hSm hlm hcm hmm hcs hst
      simp only [Nat.zero_add] at hc1
      go_wp2
      go_roundw
      case rel => exact ⟨k + 1, by omega, by go_num, by rw [HSS.out], HST⟩
      case measure => simp [intOf]; omega
    · obtain rfl : k = n := by omega
      have hO := HI.out.1
      have hmid : mid L k = bils L := by rw [← HLEN.out]; exact mid_all L
      rw [hmid] at hO
      obtain ⟨hS, hlb, _, hmx⟩ := samps_any hO (in_bils HIN.out)
      have HBW := Lib.hid HI.out.2
      have hl1000 : (bils L).length ≤ 1000 := by omega
      have hsum : sumTo L k = sumL ((bils L).map (·.2)) := by rw [← HLEN.out]; exact sumTo_all L
      have HWS : Hid (∀ w', Below wr.heap.size wr w' → Wid w') := Lib.hid (fun w' hb => HW.out w' (past HBW.out hb))
      have hsay := wins_says HK.out (bils L).length (bils L) (Nat.le_refl _) hl1000 HR.out (small_bils L)
      have hal := (wins_align HK.out (bils L).length (bils L) (Nat.le_refl _) hl1000 HR.out (small_bils L)).1
      have HK64 : Hid (In64 K) := Lib.hid (by have := HK.out; unfold coarse at this; unfold In64; omega)
      have C1 : Hid (Calls Tryd.prog 11 #[.slice A k cA, .int .i64 K] wr (Gives wr (wins K (bils L), 0))) := Lib.hid (by
        have := raw_any K hlb hS hc hmx HK64.out (HWS.out wr (Below.refl _ _)) (by omega)
        rwa [raw_wins HK.out hl1000 HR.out (small_bils L)] at this)
      rw [hlb, ← hsum] at hsay
      generalize sumTo L k = S at *
      generalize wins K (bils L) = X at *
      obtain ⟨n1, hn1⟩ : ∃ n1, X.length = n1 := ⟨_, rfl⟩
      have HN1 := Lib.hid hn1
      unfold Gives at C1
      simp only [hn1] at C1
      have HSM : Hid (∀ a ∈ X, Sm a) := Lib.hid (fun a ha => (hsay.2.1 a ha).1)
      have HCN := Lib.hid hsay.2.2.1
      have HSMS := Lib.hid hsay.2.2.2.1
      have hn1k : n1 ≤ k := by have := hsay.2.2.2.2.1; omega
      have HAL : Hid (∀ w' B c, Below wr.heap.size wr w' → RowOf w' B n1 c X → Calls Tryd.prog 13 #[.slice B n1 c, .int .i64 K] w' fun e w'' => e = .returned (.bool true) ∧ Below w'.heap.size w' w'') := Lib.hid (fun w' B c hb h => by
        have := aligned_any K h.1 h.2.1 h.2.2.1 h.2.2.2.1 HK64.out (HWS.out w' hb)
        rwa [decide_eq_true hal] at this)
      clear hn1 hsay hal hl1000 hO hmid hS hlb hmx HI HIN HR hsum HSZ
      go_wp2_with fail
      refine C1.out.mono ?_
      rintro e w3 ⟨A3, c3, rfl, hb3, hr3⟩
      have HB3 := Lib.hid hb3
      have HR3 := Lib.hid hr3
      have hc3 : n1 ≤ c3 ∧ c3 ≤ 2 ^ 63 - 1 := ⟨hr3.2.2.1, hr3.2.2.2.1⟩
      clear hb3 hr3
      go_wp2
      go_loopw [13, 14, 15] (fun sc sa si wx => ∃ j : Nat, j ≤ n1 ∧ si = .int .i64 (j : Int) ∧ sc = .int .i64 (cns (X.take j)) ∧ sa = .int .i64 (sms (X.take j)) ∧ Hid (Below w3.heap.size w3 wx)) (fun _ _ si _ => n1 - (intOf si).toNat)
      case atStart => exact ⟨0, by omega, rfl, rfl, rfl, Lib.hid (Below.refl _ _)⟩
      case round =>
        obtain ⟨j, hj, rfl, rfl, rfl, HX⟩ := hrel
        by_cases hjl : j < n1
        · obtain ⟨b, off, rfl, hcc⟩ := HR3.out.form (by omega)
          obtain ⟨_, d1, d2, _⟩ := hcc wr HX.out j hjl
          have hts := take_succ_cns (X := X) (j := j) (by rw [HN1.out]; exact hjl)
          have hb1 := cns_take HSM.out j
          have hb2 := cns_take HSM.out (j + 1)
          rw [HCN.out] at hb1 hb2
          rw [hts.1, hts.2] at hb2
          have HTS := Lib.hid hts
          generalize agAt X j = a at d1 d2 hb2 HTS
          generalize cns (X.take j) = c at *
          generalize sms (X.take j) = s at *
          have q1 : IntKind.i64.wrap (c + a.cn) = c + a.cn := by rw [IntKind.wrap_i64]; omega
          have q2 : IntKind.i64.wrap (s + a.sm) = s + a.sm := by rw [IntKind.wrap_i64]; omega
          have i1 : (0 : Int) ≤ (j : Int) := by omega
          have i2 : (j : Int) < (n1 : Int) := by omega
          clear hcc hts hb1 hb2
          go_upto_region 14 with fail
          go_quiet (fail)
          have HX2 := Lib.hid (past HX.out (belowN wr nq))
          clear d1 d2
          generalize wr.drewN nq = wy at *
          go_wp2
          go_roundw
          case rel => exact ⟨j + 1, by omega, by go_num, by rw [HTS.out.1], by rw [HTS.out.2], HX2⟩
          case measure => simp [intOf]; omega
        · obtain rfl : j = n1 := by omega
          have e1 : cns (X.take j) = (k : Int) := by rw [List.take_of_length_le (by rw [HN1.out]; exact Nat.le_refl _)]; exact HCN.out
          have e2 : sms (X.take j) = S := by rw [List.take_of_length_le (by rw [HN1.out]; exact Nat.le_refl _)]; exact HSMS.out
          rw [e1, e2]
          clear e1 e2
          have HBX := Lib.hid (past HB3.out HX.out)
          have HRX := Lib.hid (HR3.out.below HX.out)
          go_wp2_with fail
          refine (told_any _ (HWS.out _ HBX.out)).mono ?_
          rintro e w8 ⟨rfl, hb8⟩
          have HB8 := Lib.hid (past HBX.out hb8)
          have HR8 := Lib.hid (HRX.out.below hb8)
          clear hb8
          go_wp2_with fail
          refine (HAL.out _ _ _ HB8.out HR8.out).mono ?_
          rintro e w9 ⟨rfl, hb9⟩
          go_wp2
          go_ret
          exact ⟨rfl, past HBW.out (past HB8.out hb9)⟩
end Go.Proofs.YtoccmklbjabaaaaDoor.tierCounts
