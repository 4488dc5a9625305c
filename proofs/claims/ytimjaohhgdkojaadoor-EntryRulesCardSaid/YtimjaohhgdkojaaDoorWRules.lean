/-
  The walk of EntryRules: it returns true, and writes nothing that was there.
-/
import Derived.Test.YtimjaohhgdkojaaDoorWBack
import Derived.Test.YtimjaohhgdkojaaDoorERuleM
import Derived.Laws.BitsAllLaws
set_option maxRecDepth 100000
namespace Go.Proofs.YtimjaohhgdkojaaDoor
open Go.RowKit
attribute [local go_sem ↓] Go.wp_at_zero Go.wp_at_succ
set_option linter.unusedVariables false

def digS (u : Nat) : ByteArray := ⟨#[UInt8.ofNat (48 + u)]⟩
theorem dig_slice {d : Nat} (h : d < 10) (w : World) : (Instr.slice 9 (.string { data := #[48, 49, 50, 51, 52, 53, 54, 55, 56, 57] }) (some (.int .i64 (d : Int))) (some (.int .i64 ((d : Int) + 1))) none).run Tryd.prog w = .ok (.string (digS d)) w := by
  match d, h with
  | 0, _ => rfl
  | 1, _ => rfl
  | 2, _ => rfl
  | 3, _ => rfl
  | 4, _ => rfl
  | 5, _ => rfl
  | 6, _ => rfl
  | 7, _ => rfl
  | 8, _ => rfl
  | 9, _ => rfl
theorem ruleS (Q R j : Nat) : (⟨#[115, 101, 97, 108, 32]⟩ ++ digS Q ++ digS R ++ ⟨(endT j).toArray⟩ : ByteArray) = ⟨([115, 101, 97, 108, 32] ++ [UInt8.ofNat (48 + Q)] ++ [UInt8.ofNat (48 + R)] ++ endT j).toArray⟩ := by
  apply ByteArray.ext
  simp [digS]
theorem digS_size (d : Nat) : (digS d).size = 1 := rfl

set_option maxHeartbeats 4000000 in
theorem walk_rules (a0 a1 : Int) (w : World) (hw : Nam w) (h0 : 0 < w.heap.size) :
    Calls Tryd.prog 3 #[.int .i64 a0, .int .i64 a1] w fun en w' => en = .returned (.bool true) ∧ Below w.heap.size w w' := by
  have HU : Hid (Later w fun u => Nam u ∧ 0 < u.heap.size ∧ Below w.heap.size w u) := Lib.hid (fun u hu => ⟨hw.below h0 hu, Nat.lt_of_lt_of_le h0 hu.size, hu⟩)
  clear hw h0
  obtain ⟨U0, hU0⟩ : ∃ U, IntKind.u64.wrap a0 = U := ⟨_, rfl⟩
  have hU00 : 0 ≤ U0 := by rw [← hU0, IntKind.wrap_u64]; omega
  obtain ⟨y, hy, hy0, hy1⟩ : ∃ y : Int, U0.tmod 70 = y ∧ 0 ≤ y ∧ y < 70 := ⟨_, rfl, Int.tmod_nonneg _ hU00, Int.tmod_lt_of_pos _ (by decide)⟩
  obtain ⟨n, rfl⟩ : ∃ n : Nat, y = (n : Int) := ⟨y.toNat, by omega⟩
  obtain ⟨U1, hU1⟩ : ∃ U, IntKind.u64.wrap a1 = U := ⟨_, rfl⟩
  have hU10 : 0 ≤ U1 := by rw [← hU1, IntKind.wrap_u64]; omega
  obtain ⟨z, hz, hz0, hz1⟩ : ∃ z : Int, U1.tmod 4 = z ∧ 0 ≤ z ∧ z < 4 := ⟨_, rfl, Int.tmod_nonneg _ hU10, Int.tmod_lt_of_pos _ (by decide)⟩
  obtain ⟨j, rfl⟩ : ∃ j : Nat, z = (j : Int) := ⟨z.toNat, by omega⟩
  have hm2 : U1.tmod 2 = ((j % 2 : Nat) : Int) := by
    rw [Int.tmod_eq_emod_of_nonneg hU10] at hz ⊢
    omega
  have hn70 : n < 70 := by omega
  have hj4 : j < 4 := by omega
  have k1 : IntKind.i64.wrap (n : Int) = (n : Int) := by rw [IntKind.wrap_i64]; omega
  obtain ⟨Q, hQ⟩ : ∃ Q, n / 10 = Q := ⟨_, rfl⟩
  obtain ⟨R, hR⟩ : ∃ R, n % 10 = R := ⟨_, rfl⟩
  have r1 : (n : Int).tmod 10 = (R : Int) := by rw [Int.tmod_eq_emod_of_nonneg (by omega), ← hR]; rfl
  have q1 : (n : Int).tdiv 10 = (Q : Int) := by rw [Int.tdiv_eq_ediv_of_nonneg (by omega), ← hQ]; rfl
  have hQ10 : Q < 10 := by omega
  have hR10 : R < 10 := by omega
  have dq := fun w => dig_slice hQ10 w
  have dr := fun w => dig_slice hR10 w
  have k2 : IntKind.i64.wrap ((Q : Int) + 1) = (Q : Int) + 1 := by rw [IntKind.wrap_i64]; omega
  have k3 : IntKind.i64.wrap ((R : Int) + 1) = (R : Int) + 1 := by rw [IntKind.wrap_i64]; omega
  have k4 : IntKind.i64.wrap (Q : Int) = (Q : Int) := by rw [IntKind.wrap_i64]; omega
  have HT : Hid (ruleT n j = [115, 101, 97, 108, 32] ++ [UInt8.ofNat (48 + Q)] ++ [UInt8.ofNat (48 + R)] ++ endT j) := Lib.hid (by unfold ruleT; rw [hQ, hR])
  have HM2 := Lib.hid hm2
  obtain ⟨SQ, hSQ⟩ : ∃ S, S = digS Q := ⟨_, rfl⟩
  obtain ⟨SR, hSR⟩ : ∃ S, S = digS R := ⟨_, rfl⟩
  have zq : SQ.size = 1 := by rw [hSQ]; rfl
  have zr : SR.size = 1 := by rw [hSR]; rfl
  have s1 : 5 + SQ.size ≤ 9223372036854775807 := by omega
  have s2 : 5 + SQ.size + SR.size ≤ 9223372036854775807 := by omega
  have s3 : 5 + SQ.size + SR.size + 2 ≤ 9223372036854775807 := by omega
  have s4 : 5 + SQ.size + SR.size + 7 ≤ 9223372036854775807 := by omega
  rw [← hSQ] at dq
  rw [← hSR] at dr
  have HSQ := Lib.hid hSQ
  have HSR := Lib.hid hSR
  clear hSQ hSR zq zr
  have HQ := Lib.hid hQ
  have HR := Lib.hid hR
  clear hU00 hU10 hQ hR hm2
  go_enter Tryd.func3, Tryd.ntmps3
  go_upto_region 2 with fail
  go_cut [6] (fun s6 wx => s6 = .string ⟨(ruleT n j).toArray⟩ ∧ Hid (Below w.heap.size w wx))
  case first =>
    rename_i hMM
    have HMM := Lib.hid hMM
    clear hMM
    rcases (show j = 0 ∨ j = 1 ∨ j = 2 ∨ j = 3 by omega) with rfl | rfl | rfl | rfl
    all_goals go_region
    all_goals (refine HMM.out _ _ ?_; go_meet; refine ⟨?_, Lib.hid ?_⟩; rotate_left; exact past (below_box _ _) (below_drewN _ 1))
    all_goals go_light
    all_goals (rw [HT.out, HSQ.out, HSR.out]; congr 1)
  case rest =>
    obtain ⟨rfl, HB0⟩ := hcut
    clear dq dr s1 s2 s3 s4 HSQ HSR HT k2 k3 k4 r1 q1
    have HUc := Lib.hid (HU.out.on HB0.out)
    clear HU HB0
    obtain ⟨e, he⟩ : ∃ e, e = ruleE n j := ⟨_, rfl⟩
    obtain ⟨T, hT⟩ : ∃ T, T = ruleT n j := ⟨_, rfl⟩
    have heT : e = ⟨4, 0, 0, 0, 0, 0, 0, T⟩ := by rw [he, hT]; rfl
    have hTl : T.length ≤ 20 := by rw [hT]; exact rule_short n j
    have heok : e.ok := by
      rw [heT]
      unfold Ent.ok In64
      simp only
      omega
    obtain ⟨B, hB⟩ : ∃ B, B = ruleOk n j := ⟨_, rfl⟩
    have hmay : decide e.may = B := by rw [he, hB]; exact rule_may ⟨n, hn70⟩ ⟨j, hj4⟩
    have hfold : decide ((fold [e]).2.2.2 = 0) = B := by rw [he, hB]; exact rule_fold ⟨n, hn70⟩ ⟨j, hj4⟩
    have hcount : B = true → (fold [e]).2.1.cn = (n : Int) := by rw [he, hB]; exact rule_count ⟨n, hn70⟩ ⟨j, hj4⟩
    rw [← hT]
    have HBB := Lib.hid hB
    have HMAY := Lib.hid hmay
    have HFOLD := Lib.hid hfold
    have HCOUNT := Lib.hid hcount
    have HOK := Lib.hid heok
    clear he hT hB hmay hfold hcount heok
    subst heT
    go_upto_region 4 with fail
    have hb_ : Below wc.heap.size wc (wc.alloc (.cells #[.int .i64 4, .int .i64 0, .int .i64 0, .int .i64 0, .int .i64 0, .int .i64 0, .int .u32 0, .string ⟨T.toArray⟩] 26)) := below_box _ _
    have HU1 := Lib.hid (HUc.out.on hb_)
    have HE1 : Hid (Later (wc.alloc (.cells #[.int .i64 4, .int .i64 0, .int .i64 0, .int .i64 0, .int .i64 0, .int .i64 0, .int .u32 0, .string ⟨T.toArray⟩] 26)) fun u => EV u wc.heap.size ⟨4, 0, 0, 0, 0, 0, 0, T⟩) := Lib.hid (fun u hu => EV.below (EV.new wc ⟨4, 0, 0, 0, 0, 0, 0, T⟩) hu)
    clear hb_ HUc
    generalize wc.alloc (.cells #[.int .i64 4, .int .i64 0, .int .i64 0, .int .i64 0, .int .i64 0, .int .i64 0, .int .u32 0, .string ⟨T.toArray⟩] 26) = w1 at *
    generalize wc.heap.size = g at *
    go_cut [8] (fun s8 wx => s8 = .bool B ∧ Hid (w1 = wx))
    case first =>
      rename_i hMM
      have HM3 := Lib.hid hMM
      clear hMM
      obtain ⟨J, hJ⟩ : ∃ J : Nat, J = j % 2 := ⟨_, rfl⟩
      have hm2 := HM2.out
      rw [← hJ] at hm2
      have hb := HBB.out
      unfold ruleOk at hb
      rw [← hJ] at hb
      have hJ2 : J < 2 := by omega
      have HJB := Lib.hid hb
      clear hb hJ
      by_cases h1 : 1 ≤ n
      · have i1 : (1 : Int) ≤ (n : Int) := by omega
        by_cases h2 : n ≤ 64
        · have i2 : (n : Int) ≤ 64 := by omega
          rcases (show J = 0 ∨ J = 1 by omega) with rfl | rfl
          · go_wp2_with fail
            refine HM3.out _ _ ?_
            go_meet
            exact ⟨by rw [HJB.out]; simp [h1, h2], Lib.hid rfl⟩
          · go_wp2_with fail
            refine HM3.out _ _ ?_
            go_meet
            exact ⟨by rw [HJB.out]; simp, Lib.hid rfl⟩
        · have i2 : ¬ (n : Int) ≤ 64 := by omega
          go_wp2_with fail
          refine HM3.out _ _ ?_
          go_meet
          exact ⟨by rw [HJB.out]; simp [h2], Lib.hid rfl⟩
      · have i1 : ¬ (1 : Int) ≤ (n : Int) := by omega
        go_wp2_with fail
        refine HM3.out _ _ ?_
        go_meet
        exact ⟨by rw [HJB.out]; simp [h1], Lib.hid rfl⟩
    case rest =>
      obtain ⟨rfl, hw1⟩ := hcut
      obtain rfl := hw1.out
      clear hw1
      have M := fold_in (row_one ⟨4, 0, 0, 0, 0, 0, 0, T⟩ HOK.out w1) (by omega) (HU1.out _ (below_box _ _)).1 (HU1.out _ (below_box _ _)).2.1
      obtain ⟨F, hF⟩ : ∃ F, F = fold [⟨4, 0, 0, 0, 0, 0, 0, T⟩] := ⟨_, rfl⟩
      have hfold := HFOLD.out
      have hcount := HCOUNT.out
      rw [← hF] at M hfold hcount
      obtain ⟨FI, ⟨p0, p1, p2, p3, p4, p5⟩, fv, fc⟩ := F
      simp only at M hfold hcount
      unfold Pol.val at M
      have HM := Lib.hid M
      have HFOLD := Lib.hid hfold
      have HCOUNT := Lib.hid hcount
      clear M hF hfold hcount
      have e0 := HE1.out.now.c0
      have e1 := HE1.out.now.c1
      have e2 := HE1.out.now.c2
      have e3 := HE1.out.now.c3
      have e4 := HE1.out.now.c4
      have e5 := HE1.out.now.c5
      have e6 := HE1.out.now.c6
      have e7 := HE1.out.now.c7
      simp only at e0 e1 e2 e3 e4 e5 e6 e7
      go_wp2_with fail
      refine HM.out.mono ?_
      rintro en w2 ⟨A, cap, rfl, hr, hb⟩
      clear HM e0 e1 e2 e3 e4 e5 e6 e7 hr
      have hb1 : Below w1.heap.size w1 w2 := past (below_box _ _) hb
      have HU2 := Lib.hid (HU1.out.on hb1)
      have HE2 := Lib.hid (HE1.out.on hb1)
      clear hb hb1 HU1 HE1
      go_upto_region 6 with fail
      have hb_ : Below w2.heap.size w2 (w2.alloc (.cells #[.int .i64 p0, .int .i64 p1, .int .i64 p2, .int .i64 p3, .int .i64 p4, .int .i64 p5] 30)) := below_box _ _
      have HU3 := Lib.hid (HU2.out.on hb_)
      have HE3 := Lib.hid (HE2.out.on hb_)
      have HP3 : Hid (Later (w2.alloc (.cells #[.int .i64 p0, .int .i64 p1, .int .i64 p2, .int .i64 p3, .int .i64 p4, .int .i64 p5] 30)) fun u => u.cell? ⟨w2.heap.size, 4, none⟩ = some (.int .i64 p4)) := Lib.hid (fun u hu => by
        have hlt : w2.heap.size < (w2.alloc (.cells #[.int .i64 p0, .int .i64 p1, .int .i64 p2, .int .i64 p3, .int .i64 p4, .int .i64 p5] 30)).heap.size := by simp
        show u.cell? _ = _
        rw [hu.cell hlt]
        simp)
      clear hb_ HU2 HE2
      generalize w2.alloc (.cells #[.int .i64 p0, .int .i64 p1, .int .i64 p2, .int .i64 p3, .int .i64 p4, .int .i64 p5] 30) = w3 at *
      generalize w2.heap.size = gp at *
      go_wp2_with fail
      refine (told_any w3 HU3.out.now.1 HU3.out.now.2.1).mono ?_
      rintro en w4 ⟨rfl, hb4⟩
      have HU4 := Lib.hid (HU3.out.on hb4)
      have HE4 := Lib.hid (HE3.out.on hb4)
      have HP4 := Lib.hid (HP3.out.on hb4)
      clear hb4 HU3 HE3 HP3
      have e0 := HE4.out.now.c0
      have e1 := HE4.out.now.c1
      have e2 := HE4.out.now.c2
      have e3 := HE4.out.now.c3
      have e4 := HE4.out.now.c4
      have e5 := HE4.out.now.c5
      have e6 := HE4.out.now.c6
      have e7 := HE4.out.now.c7
      simp only at e0 e1 e2 e3 e4 e5 e6 e7
      have N1 := may_ent ⟨4, 0, 0, 0, 0, 0, 0, T⟩ w4 HOK.out HU4.out.now.1 HU4.out.now.2.1
      rw [HMAY.out] at N1
      have HN1 := Lib.hid N1
      clear N1
      go_wp2_with fail
      refine HN1.out.mono ?_
      rintro en w5 ⟨rfl, hb5⟩
      have HB := Lib.hid (HU4.out.on hb5).now.2.2
      have q4 := (HP4.out.on hb5).now
      clear hb5 HU4 HE4 HP4 HN1 e0 e1 e2 e3 e4 e5 e6 e7
      have hfold := HFOLD.out
      have hcount := HCOUNT.out
      clear HFOLD HCOUNT HBB HMAY
      cases B with
      | true =>
        obtain rfl : fc = 0 := of_decide_eq_true hfold
        obtain rfl : p4 = (n : Int) := hcount rfl
        clear hfold hcount
        go_wp2
        go_ret
        exact ⟨rfl, HB.out⟩
      | false =>
        have hfc : ¬ fc = 0 := of_decide_eq_false hfold
        have f1 : (fc == 0) = false := by simp; omega
        clear hfold hcount
        go_wp2
        go_ret
        exact ⟨by simp, HB.out⟩
end Go.Proofs.YtimjaohhgdkojaaDoor
