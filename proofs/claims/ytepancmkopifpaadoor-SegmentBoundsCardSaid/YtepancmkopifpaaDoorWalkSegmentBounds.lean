/-
  The walk of SegmentBounds: it returns true, and writes nothing that was there.
-/
import Derived.Test.YtepancmkopifpaaDoorMLaw
import Derived.Deep.DeepCutAuto
set_option maxRecDepth 100000
namespace Go.Proofs.YtepancmkopifpaaDoor.segmentBounds
open Go.RowKit
set_option linter.unusedVariables false

theorem wrap_u64_rem {a : Int} (m : Int) (hm : 0 < m) : ∃ x : Int, (IntKind.u64.wrap a).tmod m = x ∧ 0 ≤ x ∧ x < m := by
  have h0 : 0 ≤ IntKind.u64.wrap a := by rw [IntKind.wrap_u64]; omega
  exact ⟨_, rfl, Int.tmod_nonneg m h0, Int.tmod_lt_of_pos _ hm⟩
/-- The samples: at 10, 11 and so on. -/
def mks (j : Nat) : List (Int × Int) := (List.range j).map fun (i : Nat) => (10 + (i : Int), (i : Int))
theorem mk_len (j : Nat) : (mks j).length = j := by simp [mks]
theorem mk_succ (j : Nat) : mks (j + 1) = mks j ++ [(10 + (j : Int), (j : Int))] := by simp [mks, List.range_succ]
theorem mk_at {j i : Nat} (h : i < j) : (mks j).getD i (0, 0) = (10 + (i : Int), (i : Int)) := by
  unfold mks
  rw [List.getD_eq_getElem?_getD, List.getElem?_map, List.getElem?_range h]
  rfl
theorem mk_in (j : Nat) (hj : j ≤ 67) : In2 (mks j) := fun x hx => by
  simp only [mks, List.mem_map, List.mem_range] at hx
  obtain ⟨i, hi, rfl⟩ := hx
  unfold In64
  simp only
  omega
theorem mk_rise (j : Nat) (hj : j ≤ 67) : Rise (mks j) := fun i hi => by
  rw [mk_len] at hi
  unfold riseAt tAt Ag.begin_
  rw [mk_at hi]
  refine ⟨by simp only; omega, fun h0 => ?_⟩
  rw [mk_at (show i - 1 < j by omega)]
  simp only
  omega
theorem may_mk (K : Nat) (F T : Int) (hK : K ≤ 67) (hF : 8 ≤ F ∧ F ≤ 12) (hT : 9 + (K : Int) ≤ T ∧ T ≤ 11 + (K : Int)) : Sg.may ⟨1, 0, F, T, mks K, []⟩ ↔ 1 ≤ K ∧ K ≤ 64 ∧ F ≤ 10 ∧ 10 + (K : Int) ≤ T := by
  rw [may_split]
  simp only [if_true, List.length_nil, true_and]
  by_cases h1 : 1 ≤ K
  · by_cases h2 : K ≤ 64
    · rw [hasS_ends (mk_len K) (by omega) h2 (mk_rise K hK), mk_at (show 0 < K by omega), mk_at (show K - 1 < K by omega)]
      simp only
      omega
    · constructor
      · rintro ⟨_, _, _, _, h⟩
        have := h.2.1
        rw [mk_len] at this
        omega
      · rintro ⟨_, h, _⟩
        omega
  · constructor
    · rintro ⟨_, _, _, _, h⟩
      have := h.1
      rw [mk_len] at this
      omega
    · rintro ⟨h, _⟩
      omega
/-- What the loop holds. -/
structure BI (w wr : World) (F T : Int) (j : Nat) (V : Value) : Prop where
  sv : SgV wr w.heap.size 1 0 F T V (.slice none 0 0)
  own : wr.ownsRow (w.heap.size + 1) 28 2 V j (sampV (mks j))
  below : Below w.heap.size w wr

theorem _root_.Go.Proofs.YtepancmkopifpaaDoor.SgV.set4 {w : World} {g : Nat} {i k f t : Int} {a b : Value} (h : SgV w g i k f t a b) (v : Value) : SgV (w.setCell ⟨g, 4, none⟩ v) g i k f t v b := by
  obtain ⟨c0, c1, c2, c3, c4, c5, z0, z1, z2, z3, z4, z5⟩ := h
  constructor <;> simp [go_sem, *]
theorem BI.step {w wr wa : World} {F T : Int} {j : Nat} {V V' : Value} (h : BI w wr F T j V) (hown : wa.ownsRow (w.heap.size + 1) 28 2 V' (j + 1) (sampV (mks j) ++ [.int .i64 (10 + (j : Int)), .int .i64 (j : Int)])) {o : Obj} (hg : (wr.alloc o).grownBy wa V.ownBlock) :
    BI w (wa.setCell ⟨w.heap.size, 4, none⟩ V') F T (j + 1) V' := by
  have hf : ∀ k, V.ownBlock = some k → w.heap.size + 1 ≤ k := fun k e => (h.own.lt k e).1
  have hsz : wr.heap.size ≤ (wr.alloc o).heap.size := by simp
  have h2 : SgV wa w.heap.size 1 0 F T V (.slice none 0 0) := (h.sv.grown (g_all wr o none) (by simp)).grown hg (fun e => by have := hf _ e.symm; omega)
  refine ⟨h2.set4 V', ?_, ?_⟩
  · rw [mk_succ, sampV_append]
    exact own2_grown hown (g_cell wa w.heap.size 4 V') (fun k e e2 => by
      injection e2 with e2
      have := (hown.lt k e).1
      omega)
  · exact ((past_alloc h.below o).grown hg (Nat.le_trans h.below.size hsz) (fun k e => by have := hf k e; omega)).setCell (Nat.le_refl _) _
set_option maxHeartbeats 600000 in
theorem walk (a0 a1 a2 : Int) (w : World) (w0 : (Lit.int .i64 a0).wf = true) (w1 : (Lit.int .i64 a1).wf = true) (w2 : (Lit.int .i64 a2).wf = true) (hw : Wid w) :
    Calls Tryd.prog 3 #[.int .i64 a0, .int .i64 a1, .int .i64 a2] w fun e w' => e = .returned (.bool true) ∧ Below w.heap.size w w' := by
  obtain ⟨i0, hi0, hz0, hz1, hz2⟩ := info_parts Tryd.info28
  obtain ⟨x, hx, hx0, hx1⟩ := wrap_u64_rem (a := a0) 68 (by decide)
  obtain ⟨y, hy, hy0, hy1⟩ := wrap_u64_rem (a := a1) 5 (by decide)
  obtain ⟨z, hz, hz0', hz1'⟩ := wrap_u64_rem (a := a2) 3 (by decide)
  obtain ⟨K, rfl⟩ : ∃ K : Nat, x = (K : Int) := ⟨x.toNat, by omega⟩
  obtain ⟨U0, hU0⟩ : ∃ U, IntKind.u64.wrap a0 = U := ⟨_, rfl⟩
  obtain ⟨U1, hU1⟩ : ∃ U, IntKind.u64.wrap a1 = U := ⟨_, rfl⟩
  obtain ⟨U2, hU2⟩ : ∃ U, IntKind.u64.wrap a2 = U := ⟨_, rfl⟩
  rw [hU0] at hx
  rw [hU1] at hy
  rw [hU2] at hz
  have k1 : IntKind.u64.wrap (K : Int) = (K : Int) := by rw [IntKind.wrap_u64]; omega
  have k2 : IntKind.i64.wrap (K : Int) = (K : Int) := by rw [IntKind.wrap_i64]; omega
  have k3 : IntKind.u64.wrap y = y := by rw [IntKind.wrap_u64]; omega
  have k4 : IntKind.i64.wrap y = y := by rw [IntKind.wrap_i64]; omega
  have k5 : IntKind.u64.wrap z = z := by rw [IntKind.wrap_u64]; omega
  have k6 : IntKind.i64.wrap z = z := by rw [IntKind.wrap_i64]; omega
  obtain ⟨F, hF⟩ : ∃ F, IntKind.i64.wrap (8 + y) = F := ⟨_, rfl⟩
  have hF' : F = 8 + y := by rw [← hF, IntKind.wrap_i64]; omega
  have k7 : IntKind.i64.wrap (10 + (K : Int)) = 10 + (K : Int) := by rw [IntKind.wrap_i64]; omega
  have k8 : IntKind.i64.wrap (10 + (K : Int) + z) = 10 + (K : Int) + z := by rw [IntKind.wrap_i64]; omega
  obtain ⟨T, hT⟩ : ∃ T, IntKind.i64.wrap (10 + (K : Int) + z - 1) = T := ⟨_, rfl⟩
  have hT' : T = 10 + (K : Int) + z - 1 := by rw [← hT, IntKind.wrap_i64]; omega
  have HF : Hid (8 ≤ F ∧ F ≤ 12) := Lib.hid (by omega)
  have HT : Hid (9 + (K : Int) ≤ T ∧ T ≤ 11 + (K : Int)) := Lib.hid (by omega)
  have hK : K ≤ 67 := by omega
  have HW := Lib.hid hw
  clear w0 w1 w2 hF' hT' hw
  go_enter Tryd.func3, Tryd.ntmps3
  go_wp2
  have HB0 : Hid (BI w (w.alloc (.cells #[.int .i64 1, .int .i64 0, .int .i64 F, .int .i64 T, .slice none 0 0, .slice none 0 0] 26)) F T 0 (.slice none 0 0)) := Lib.hid ⟨SgV.new w 1 0 F T _ _ 26, World.ownsRow_nil _ _ _ _, below_box _ _⟩
  go_loopw [9] (fun si wr => ∃ (j : Nat) (V : Value), j ≤ K ∧ si = .int .i64 (j : Int) ∧ Hid (BI w wr F T j V)) (fun si _ => K - (intOf si).toNat)
  case atStart => exact ⟨0, _, by omega, rfl, HB0⟩
  case round =>
    obtain ⟨j, V, hj, rfl, HI⟩ := hrel
    by_cases hlt : j < K
    · have j1 : (j : Int) < (K : Int) := by omega
      have j2 : IntKind.i64.wrap (10 + (j : Int)) = 10 + (j : Int) := by rw [IntKind.wrap_i64]; omega
      obtain ⟨d0, d1, d2, d3, d4, d5, y0, y1, y2, y3, y4, y5⟩ := HI.out.sv
      have HO : Hid ((wr.alloc (.cells #[.int .i64 (10 + (j : Int)), .int .i64 (j : Int)] 28)).ownsRow (w.heap.size + 1) 28 2 V j (sampV (mks j))) := Lib.hid (own_alloc HI.out.own _)
      have HNW := Lib.hid (new2 wr (10 + (j : Int)) (j : Int))
      have hsz : w.heap.size < wr.heap.size := HI.out.sv.lt
      go_wp2_with (at_builtin; refine wpList_append_lies _ rfl _ _ 23 rfl (w.heap.size + 1) 28 i0 (.agg #[.int .i64 0, .int .i64 0]) 2 16 Tryd.underlying23 hi0 hz0 hz1 hz2 rfl (by decide) V j (sampV (mks j)) rfl HO.out ⟨wr.heap.size, 0, none⟩ 1 1 [.int .i64 (10 + (j : Int)), .int .i64 (j : Int)] rfl rfl HNW.out (one2 _ _) (by decide) ?c3 ?c4 ?c5 (wr.alloc (.cells #[.int .i64 (10 + (j : Int)), .int .i64 (j : Int)] 28)).heap.size rfl ?_)
      case c3 => unfold maxLen; omega
      case c4 => omega
      case c5 => simp; omega
      intro g2 cap2 wa hown hgrow hat hltg
      have hn := HI.out.step hown hgrow
      have hsv : SgV wa w.heap.size 1 0 F T V (.slice none 0 0) := (HI.out.sv.grown (g_all wr _ none) (by simp)).grown hgrow (fun e => by
        have := (HI.out.own.lt _ e.symm).1
        omega)
      have HN := Lib.hid hn
      obtain ⟨q0, q1, q2, q3, q4, q5, p0, p1, p2, p3, p4, p5⟩ := hsv
      clear hn hown hgrow hat hltg HO HNW d0 d1 d2 d3 d4 d5 y0 y1 y2 y3 y4 y5
      go_wp2
      go_roundw
      case rel => exact ⟨j + 1, _, by omega, by go_num, HN⟩
      case measure => simp [intOf]; omega
    · obtain rfl : j = K := by omega
      have j1 : ¬ (j : Int) < (j : Int) := by omega
      obtain ⟨A, ca, rfl, hrow, hlen, hfr⟩ := row_of_own HI.out.own (mk_in j hK)
      have hseg : SegAt wr ⟨1, 0, F, T, mks j, []⟩ A j ca none 0 0 := ⟨hrow, hlen, rowOf_nil _, ⟨by unfold In64; simp only; omega, by unfold In64; simp only; omega, by have := HF.out; unfold In64; simp only; omega, by have := HT.out; unfold In64; simp only; omega, mk_in j hK, fun a ha => by simp at ha⟩⟩
      have hlt2 : Later wr (fun u => SegAt u ⟨1, 0, F, T, mks j, []⟩ A j ca none 0 0 ∧ SgV u w.heap.size 1 0 F T (.slice A j ca) (.slice none 0 0) ∧ Wid u ∧ Below w.heap.size w u) := fun u hu => ⟨hseg.below hu, HI.out.sv.below hu, HW.out.below (past HI.out.below hu), past HI.out.below hu⟩
      have HL := Lib.hid hlt2
      clear hrow hlen hfr hseg hlt2
      obtain ⟨d0, d1, d2, d3, d4, d5, y0, y1, y2, y3, y4, y5⟩ := HI.out.sv
      go_upto_region 7 with fail
      have hmm := may_mk j F T hK HF.out HT.out
      go_cut [10] (fun c wx => c = .bool (decide (Sg.may ⟨1, 0, F, T, mks j, []⟩)) ∧ wr = wx)
      case first =>
        have HM := Lib.hid hmm
        clear hmm
        by_cases c1 : (1 : Int) ≤ (j : Int)
        · by_cases c2 : (j : Int) ≤ 64
          · by_cases c3 : F ≤ 10
            · by_cases c4 : 10 + (j : Int) ≤ T
              · have HE : Hid (decide (Sg.may ⟨1, 0, F, T, mks j, []⟩) = true) := Lib.hid (decide_eq_true (HM.out.2 (by omega)))
                clear HM HL HI HB0 HF HT
                go_wp2
                go_meet
                exact ⟨by rw [HE.out], rfl⟩
              · have HE : Hid (decide (Sg.may ⟨1, 0, F, T, mks j, []⟩) = false) := Lib.hid (decide_eq_false (fun h => by have := HM.out.1 h; omega))
                clear HM HL HI HB0 HF HT
                go_wp2
                go_meet
                exact ⟨by rw [HE.out], rfl⟩
            · have HE : Hid (decide (Sg.may ⟨1, 0, F, T, mks j, []⟩) = false) := Lib.hid (decide_eq_false (fun h => by have := HM.out.1 h; omega))
              clear HM HL HI HB0 HF HT
              go_wp2
              go_meet
              exact ⟨by rw [HE.out], rfl⟩
          · have HE : Hid (decide (Sg.may ⟨1, 0, F, T, mks j, []⟩) = false) := Lib.hid (decide_eq_false (fun h => by have := HM.out.1 h; omega))
            clear HM HL HI HB0 HF HT
            go_wp2
            go_meet
            exact ⟨by rw [HE.out], rfl⟩
        · have HE : Hid (decide (Sg.may ⟨1, 0, F, T, mks j, []⟩) = false) := Lib.hid (decide_eq_false (fun h => by have := HM.out.1 h; omega))
          clear HM HL HI HB0 HF HT
          go_wp2
          go_meet
          exact ⟨by rw [HE.out], rfl⟩
      case rest =>
        obtain ⟨rfl, rfl⟩ := hcut
        clear hmm d0 d1 d2 d3 d4 d5 y0 y1 y2 y3 y4 y5
        by_cases hm : Sg.may ⟨1, 0, F, T, mks j, []⟩
        · have em : decide (Sg.may ⟨1, 0, F, T, mks j, []⟩) = true := decide_eq_true hm
          rw [em]
          have EM := Lib.hid em
          have MP := Lib.hid (putG_ok HL.out.now.1 HL.out.now.2.2.1 hm)
          generalize (Sg.bytes ⟨1, 0, F, T, mks j, []⟩).length = nb at MP
          obtain ⟨d0, d1, d2, d3, d4, d5, _⟩ := HL.out.now.2.1
          clear em hm
          go_wp2_with fail
          refine MP.out.mono ?_
          rintro e w2 ⟨AV, cap, rfl, _, hb⟩
          have HL2 := Lib.hid (HL.out.on hb)
          clear hb MP HL d0 d1 d2 d3 d4 d5
          go_wp2_with fail
          refine (told_any _ HL2.out.now.2.2.1).mono ?_
          rintro e w3 ⟨rfl, hb⟩
          have HL3 := Lib.hid (HL2.out.on hb)
          clear hb HL2
          obtain ⟨d0, d1, d2, d3, d4, d5, _⟩ := HL3.out.now.2.1
          go_wp2_with fail
          have m1 := mayG_any HL3.out.now.1 HL3.out.now.2.2.1
          rw [EM.out] at m1
          refine m1.mono ?_
          rintro e w4 ⟨rfl, hb⟩
          have HB4 := Lib.hid (past HL3.out.now.2.2.2 hb)
          clear hb m1 HL3 d0 d1 d2 d3 d4 d5
          go_wp2
          go_ret
          exact ⟨rfl, HB4.out⟩
        · have em : decide (Sg.may ⟨1, 0, F, T, mks j, []⟩) = false := decide_eq_false hm
          rw [em]
          have EM := Lib.hid em
          have MP := Lib.hid (putG_not HL.out.now.1 HL.out.now.2.2.1 hm)
          obtain ⟨d0, d1, d2, d3, d4, d5, _⟩ := HL.out.now.2.1
          clear em hm
          go_wp2_with fail
          refine MP.out.mono ?_
          rintro e w2 ⟨rfl, hb⟩
          have HL2 := Lib.hid (HL.out.on hb)
          clear hb MP HL d0 d1 d2 d3 d4 d5
          go_wp2_with fail
          refine (told_any _ HL2.out.now.2.2.1).mono ?_
          rintro e w3 ⟨rfl, hb⟩
          have HL3 := Lib.hid (HL2.out.on hb)
          clear hb HL2
          obtain ⟨d0, d1, d2, d3, d4, d5, _⟩ := HL3.out.now.2.1
          go_wp2_with fail
          have m1 := mayG_any HL3.out.now.1 HL3.out.now.2.2.1
          rw [EM.out] at m1
          refine m1.mono ?_
          rintro e w4 ⟨rfl, hb⟩
          have HB4 := Lib.hid (past HL3.out.now.2.2.2 hb)
          clear hb m1 HL3 d0 d1 d2 d3 d4 d5
          go_wp2
          go_ret
          exact ⟨rfl, HB4.out⟩
end Go.Proofs.YtepancmkopifpaaDoor.segmentBounds
