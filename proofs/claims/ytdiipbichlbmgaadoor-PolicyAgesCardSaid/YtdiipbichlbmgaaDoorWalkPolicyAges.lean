/-
  The walk of PolicyAges: it returns true, and writes nothing that was there.
-/
import Derived.Test.YtdiipbichlbmgaaDoorPTold
namespace Go.Proofs.YtdiipbichlbmgaaDoor.policyAges
open Go.RowKit
set_option linter.unusedVariables false

theorem wrap_u64_rem {a : Int} (m : Int) (hm : 0 < m) : ∃ x : Int, (IntKind.u64.wrap a).tmod m = x ∧ 0 ≤ x ∧ x < m := by
  have h0 : 0 ≤ IntKind.u64.wrap a := by rw [IntKind.wrap_u64]; omega
  refine ⟨_, rfl, Int.tmod_nonneg m h0, Int.tmod_lt_of_pos _ hm⟩

theorem printR_pos (p : Pol) : 0 < (printR p).length := by
  unfold printR
  simp only [List.length_append, List.length_cons]
  omega
theorem may_says {x y z : Int} (hx0 : 0 ≤ x) (hx1 : x < 21) (hy0 : 0 ≤ y) (hy1 : y < 21) (hz0 : 0 ≤ z) (hz1 : z < 21) :
    (!decide (x = 0 ∧ (y ≠ 0 ∨ z ≠ 0) ∨ y = 0 ∧ z ≠ 0) && !decide (y ≠ 0 ∧ y < x ∨ z ≠ 0 ∧ z < y)) = decide (Pol.may ⟨x, y, z, 0, 8, 30⟩) := by
  rw [Bool.eq_iff_iff]
  unfold Pol.may Pol.ages ageOk nextOk
  simp only [Bool.and_eq_true, Bool.not_eq_true', decide_eq_false_iff_not, decide_eq_true_eq]
  by_cases h1 : x = 0 <;> by_cases h2 : y = 0 <;> by_cases h3 : z = 0 <;> by_cases h4 : y < x <;> by_cases h5 : z < y <;> simp [h1, h2, h3, h4, h5] <;> omega

set_option maxRecDepth 100000 in
set_option maxHeartbeats 1000000 in
theorem walk (a0 a1 a2 : Int) (w : World) (w0 : (Lit.int .i64 a0).wf = true) (w1 : (Lit.int .i64 a1).wf = true) (w2 : (Lit.int .i64 a2).wf = true) (hw : Nam w) (hT : Pow w) (hn : 0 < w.heap.size) :
    Calls Tryd.prog 3 #[.int .i64 a0, .int .i64 a1, .int .i64 a2] w fun e w' => e = .returned (.bool true) ∧ Below w.heap.size w w' := by
  obtain ⟨x, hx, hx0, hx1⟩ := wrap_u64_rem (a := a0) 21 (by decide)
  obtain ⟨y, hy, hy0, hy1⟩ := wrap_u64_rem (a := a1) 21 (by decide)
  obtain ⟨z, hz, hz0, hz1⟩ := wrap_u64_rem (a := a2) 21 (by decide)
  have HE : Hid (TEnv w w) := Lib.hid ⟨hw, hT, hn, Below.refl _ _⟩
  have M0 : Hid (∀ w, Calls Tryd.prog 7 #[] w fun e w' => e = .returned (.agg #[.int .i64 60, .int .i64 600, .int .i64 6000, .int .i64 0, .int .i64 8, .int .i64 30]) ∧ Below w.heap.size w w') := Lib.hid (fun w => default_any w)
  clear hw hT hn w0 w1 w2
  go_enter Tryd.func3, Tryd.ntmps3
  go_wp2_with fail
  refine (M0.out _).mono ?_
  rintro e w1 ⟨rfl, hb1⟩
  have HW : Hid (TEnv w (w1.alloc (.cells #[.int .i64 x, .int .i64 y, .int .i64 z, .int .i64 0, .int .i64 8, .int .i64 30] 25)) ∧ PHold (w1.alloc (.cells #[.int .i64 x, .int .i64 y, .int .i64 z, .int .i64 0, .int .i64 8, .int .i64 30] 25)) w1.heap.size ⟨x, y, z, 0, 8, 30⟩ ∧ w1.heap.size < (w1.alloc (.cells #[.int .i64 x, .int .i64 y, .int .i64 z, .int .i64 0, .int .i64 8, .int .i64 30] 25)).heap.size) := Lib.hid ⟨(HE.out.on hb1).alloc _, by unfold PHold; simp, by simp⟩
  obtain ⟨B1, hB1⟩ : ∃ B1, B1 = decide (x = 0 ∧ (y ≠ 0 ∨ z ≠ 0) ∨ y = 0 ∧ z ≠ 0) := ⟨_, rfl⟩
  obtain ⟨B2, hB2⟩ : ∃ B2, B2 = decide (y ≠ 0 ∧ y < x ∨ z ≠ 0 ∧ z < y) := ⟨_, rfl⟩
  have HB1 := Lib.hid hB1
  have HB2 := Lib.hid hB2
  clear hb1 hB1 hB2 HE
  go_upto_region 5 with fail
  generalize w1.alloc (.cells #[.int .i64 x, .int .i64 y, .int .i64 z, .int .i64 0, .int .i64 8, .int .i64 30] 25) = ws at *
  generalize w1.heap.size = g at *
  clear hx hy hz
  go_cut [50] (fun s wx => s = .bool B1 ∧ ws = wx)
  case first =>
    have HS : Hid (B1 = ((x == 0) && (y != 0 || z != 0) || (y == 0) && (z != 0))) := Lib.hid (by rw [HB1.out, Bool.eq_iff_iff]; simp)
    have hy2 : (y != 0) = !(y == 0) := rfl
    have hz2 : (z != 0) = !(z == 0) := rfl
    rw [hy2, hz2] at HS
    cases hbx : x == 0 <;> cases hby : y == 0 <;> cases hbz : z == 0
    all_goals
      rw [hbx, hby, hbz] at HS
      rw [hby] at hy2
      rw [hbz] at hz2
      simp only [Bool.not_true, Bool.not_false] at hy2 hz2
      go_wp2_with fail
      go_meet
      exact ⟨by rw [HS.out]; rfl, rfl⟩
  case rest =>
    obtain ⟨rfl, rfl⟩ := hcut
    go_upto_if 50 with fail
    go_cut [11] (fun s wx => s = .bool (!B1) ∧ ws = wx)
    case first =>
      cases B1
      all_goals
        go_wp2_with fail
        go_meet
        exact ⟨rfl, rfl⟩
    case rest =>
      obtain ⟨rfl, rfl⟩ := hcut
      go_upto_region 7 with fail
      go_cut [66] (fun s wx => s = .bool B2 ∧ ws = wx)
      case first =>
        have HS : Hid (B2 = ((y != 0) && decide (y < x) || (z != 0) && decide (z < y))) := Lib.hid (by rw [HB2.out, Bool.eq_iff_iff]; simp)
        cases hby : y != 0 <;> cases hbz : z != 0 <;> cases hb1 : decide (y < x) <;> cases hb2 : decide (z < y)
        all_goals
          rw [hby, hbz, hb1, hb2] at HS
          go_wp2_with fail
          go_meet
          exact ⟨by rw [HS.out]; rfl, rfl⟩
      case rest =>
        obtain ⟨rfl, rfl⟩ := hcut
        go_upto_if 66 with fail
        go_cut [11] (fun s wx => s = .bool (!B1 && !B2) ∧ ws = wx)
        case first =>
          cases B2
          all_goals
            go_wp2_with fail
            go_meet
            exact ⟨by simp, rfl⟩
        case rest =>
          obtain ⟨rfl, rfl⟩ := hcut
          have HM : Hid ((!B1 && !B2) = decide (Pol.may ⟨x, y, z, 0, 8, 30⟩)) := Lib.hid (by
            rw [HB1.out, HB2.out]
            exact may_says hx0 hx1 hy0 hy1 hz0 hz1)
          have HOK : Hid (Pol.ok ⟨x, y, z, 0, 8, 30⟩ ∧ Pol.ok ⟨x, y, z, 100, 8, 30⟩ ∧ ¬ Pol.may ⟨x, y, z, 100, 8, 30⟩) := Lib.hid (by
            unfold Pol.ok In64 Pol.may Pol.ages
            simp only
            omega)
          generalize (!B1 && !B2) = B at *
          clear HB1 HB2
          obtain ⟨c0, c1, c2, c3, c4, c5⟩ := HW.out.2.1
          simp only at c0 c1 c2 c3 c4 c5
          have HW2 : Hid (TEnv w (ws.alloc (.cells #[.int .i64 x, .int .i64 y, .int .i64 z, .int .i64 100, .int .i64 8, .int .i64 30] 25)) ∧ PHold (ws.alloc (.cells #[.int .i64 x, .int .i64 y, .int .i64 z, .int .i64 100, .int .i64 8, .int .i64 30] 25)) g ⟨x, y, z, 0, 8, 30⟩ ∧ PHold (ws.alloc (.cells #[.int .i64 x, .int .i64 y, .int .i64 z, .int .i64 100, .int .i64 8, .int .i64 30] 25)) ws.heap.size ⟨x, y, z, 100, 8, 30⟩ ∧ g < (ws.alloc (.cells #[.int .i64 x, .int .i64 y, .int .i64 z, .int .i64 100, .int .i64 8, .int .i64 30] 25)).heap.size ∧ ws.heap.size < (ws.alloc (.cells #[.int .i64 x, .int .i64 y, .int .i64 z, .int .i64 100, .int .i64 8, .int .i64 30] 25)).heap.size) := Lib.hid (by
            have hba : Below ws.heap.size ws (ws.alloc (.cells #[.int .i64 x, .int .i64 y, .int .i64 z, .int .i64 100, .int .i64 8, .int .i64 30] 25)) := past_alloc (Below.refl _ _) _
            exact ⟨HW.out.1.on hba, HW.out.2.1.below HW.out.2.2 hba, by unfold PHold; simp, Nat.lt_of_lt_of_le HW.out.2.2 hba.size, by simp⟩)
          go_upto_region 11 with fail
          clear c0 c1 c2 c3 c4 c5
          generalize ws.alloc (.cells #[.int .i64 x, .int .i64 y, .int .i64 z, .int .i64 100, .int .i64 8, .int .i64 30] 25) = wt at *
          generalize ws.heap.size = g2 at *
          have N1 : Hid (∀ w, Calls Tryd.prog 10 #[.agg #[.int .i64 x, .int .i64 y, .int .i64 z, .int .i64 0, .int .i64 8, .int .i64 30]] w fun e w' => e = .returned (.bool B) ∧ Below w.heap.size w w') := Lib.hid (fun w => by
            have := may_any ⟨x, y, z, 0, 8, 30⟩ w HOK.out.1
            rw [← HM.out] at this
            exact this)
          have N2 : Hid (∀ w, Calls Tryd.prog 10 #[.agg #[.int .i64 x, .int .i64 y, .int .i64 z, .int .i64 100, .int .i64 8, .int .i64 30]] w fun e w' => e = .returned (.bool false) ∧ Below w.heap.size w w') := Lib.hid (fun w => by
            have := may_any ⟨x, y, z, 100, 8, 30⟩ w HOK.out.2.1
            rw [decide_eq_false HOK.out.2.2] at this
            exact this)
          obtain ⟨c0, c1, c2, c3, c4, c5⟩ := HW2.out.2.1
          simp only at c0 c1 c2 c3 c4 c5
          clear HW
          cases B
          case false =>
            have M1 : Hid (Calls Tryd.prog 8 #[.agg #[.int .i64 x, .int .i64 y, .int .i64 z, .int .i64 0, .int .i64 8, .int .i64 30]] wt fun e w' => e = .returned (.tuple #[.string ⟨#[]⟩, .int .i64 1]) ∧ Below wt.heap.size wt w') := Lib.hid (print_not ⟨x, y, z, 0, 8, 30⟩ wt HOK.out.1 (of_decide_eq_false HM.out.symm))
            go_wp2_with fail
            refine M1.out.mono ?_
            rintro e w5 ⟨rfl, hb5⟩
            clear c0 c1 c2 c3 c4 c5
            have HE5 : Hid (TEnv w w5 ∧ Below wt.heap.size wt w5) := Lib.hid ⟨HW2.out.1.on hb5, hb5⟩
            clear hb5
            go_wp2_with fail
            refine (told_any _ HE5.out.1.nam HE5.out.1.pow HE5.out.1.pos).mono ?_
            rintro e w6 ⟨rfl, hb6⟩
            have HE6 : Hid (TEnv w w6 ∧ Below wt.heap.size wt w6) := Lib.hid ⟨HE5.out.1.on hb6, past HE5.out.2 hb6⟩
            clear hb6
            obtain ⟨c0, c1, c2, c3, c4, c5⟩ := HW2.out.2.1.below HW2.out.2.2.2.1 HE6.out.2
            simp only at c0 c1 c2 c3 c4 c5
            go_wp2_with fail
            refine (N1.out _).mono ?_
            rintro e w7 ⟨rfl, hb7⟩
            clear c0 c1 c2 c3 c4 c5
            have HE7 : Hid (TEnv w w7 ∧ Below wt.heap.size wt w7) := Lib.hid ⟨HE6.out.1.on hb7, past HE6.out.2 hb7⟩
            clear hb7
            obtain ⟨c0, c1, c2, c3, c4, c5⟩ := HW2.out.2.2.1.below HW2.out.2.2.2.2 HE7.out.2
            simp only at c0 c1 c2 c3 c4 c5
            go_wp2_with fail
            refine (N2.out _).mono ?_
            rintro e w8 ⟨rfl, hb8⟩
            have HE8 : Hid (Below w.heap.size w w8) := Lib.hid (past HE7.out.1.below hb8)
            clear hb8 c0 c1 c2 c3 c4 c5
            go_wp2
            go_ret
            exact ⟨rfl, HE8.out⟩
          case true =>
            have M1 := Lib.hid (print_may ⟨x, y, z, 0, 8, 30⟩ wt HOK.out.1 (of_decide_eq_true HM.out.symm) HW2.out.1.nam HW2.out.1.pow HW2.out.1.pos)
            unfold str Pol.val at M1
            simp only at M1
            have hsz : 0 < (⟨(printR ⟨x, y, z, 0, 8, 30⟩).toArray⟩ : ByteArray).size := by
              rw [ba_size]
              exact printR_pos _
            generalize (⟨(printR ⟨x, y, z, 0, 8, 30⟩).toArray⟩ : ByteArray) = sp at *
            go_wp2_with fail
            refine M1.out.mono ?_
            rintro e w5 ⟨rfl, hb5⟩
            clear c0 c1 c2 c3 c4 c5
            have HE5 : Hid (TEnv w w5 ∧ Below wt.heap.size wt w5) := Lib.hid ⟨HW2.out.1.on hb5, hb5⟩
            clear hb5
            go_wp2_with fail
            refine (told_any _ HE5.out.1.nam HE5.out.1.pow HE5.out.1.pos).mono ?_
            rintro e w6 ⟨rfl, hb6⟩
            have HE6 : Hid (TEnv w w6 ∧ Below wt.heap.size wt w6) := Lib.hid ⟨HE5.out.1.on hb6, past HE5.out.2 hb6⟩
            clear hb6
            obtain ⟨c0, c1, c2, c3, c4, c5⟩ := HW2.out.2.1.below HW2.out.2.2.2.1 HE6.out.2
            simp only at c0 c1 c2 c3 c4 c5
            go_wp2_with fail
            refine (N1.out _).mono ?_
            rintro e w7 ⟨rfl, hb7⟩
            clear c0 c1 c2 c3 c4 c5
            have HE7 : Hid (TEnv w w7 ∧ Below wt.heap.size wt w7) := Lib.hid ⟨HE6.out.1.on hb7, past HE6.out.2 hb7⟩
            clear hb7
            obtain ⟨c0, c1, c2, c3, c4, c5⟩ := HW2.out.2.2.1.below HW2.out.2.2.2.2 HE7.out.2
            simp only at c0 c1 c2 c3 c4 c5
            go_wp2_with fail
            refine (N2.out _).mono ?_
            rintro e w8 ⟨rfl, hb8⟩
            have HE8 : Hid (Below w.heap.size w w8) := Lib.hid (past HE7.out.1.below hb8)
            clear hb8 c0 c1 c2 c3 c4 c5
            go_wp2
            go_ret
            exact ⟨rfl, HE8.out⟩
end Go.Proofs.YtdiipbichlbmgaaDoor.policyAges
