/-
  The document's Roll of two segments.
-/
import Derived.Test.YtepancmkopifpaaGreatDoorZRollI
import Derived.Test.YtepancmkopifpaaGreatDoorWTold
import Derived.Test.YtepancmkopifpaaGreatDoorZMay
import Derived.Test.YtepancmkopifpaaGreatDoorRDownAny
import Derived.Deep.DeepCutAuto
set_option maxRecDepth 100000
namespace Go.Proofs.YtepancmkopifpaaGreatDoor
open Go.RowKit
attribute [local go_sem ↓] Go.wp_at_zero Go.wp_at_succ
set_option linter.unusedVariables false

/-- What the outer loop holds. -/
structure RO (w wr : World) (l : List Sg) (j : Nat) (v8 v9 : Value) : Prop where
  raw : wr.ownsRow (w.heap.size + 1) 48 2 v8 (smN l j).length (sampV (smN l j))
  fine : wr.ownsRow (w.heap.size + 1) 50 7 v9 (meetOn [] (agN l j)).1.length (aggV (meetOn [] (agN l j)).1)
  okm : (meetOn [] (agN l j)).2 = 0
  okf : ∀ a ∈ (meetOn [] (agN l j)).1, a.ok
  res : SgV wr w.heap.size 0 0 0 0 (.slice none 0 0) (.slice none 0 0)
  below : Below w.heap.size w wr
  len : (smN l j).length ≤ 64 * j ∧ (agN l j).length ≤ 64 * j
  six : Six wr w.heap.size

set_option maxHeartbeats 2000000 in
theorem rroll_two {g off c : Nat} {l : List Sg} {id k : Int} {w : World} (h : Segs w g off l) (hL : l.length = 2) (hc : 2 ≤ c) (hm : c ≤ 1000) (hid : In64 id) (hk : In64 k) (hw : Wid w) :
    Calls Tryz.prog 13 #[.slice (some ⟨g, off, none⟩) 2 c, .int .i64 id, .int .i64 k] w (RollG w (rollS l id k)) := by
  have HF : Hid (∀ (cd : Int) w', rollS l id k = (Sg.zero, cd) → Below w.heap.size w w' → RollG w (rollS l id k) (.returned (.tuple #[.agg #[.int .i64 0, .int .i64 0, .int .i64 0, .int .i64 0, .slice none 0 0, .slice none 0 0], .int .i64 cd])) w') := Lib.hid (fun cd w' e hb => by rw [e]; exact ⟨none, 0, 0, rfl, rowOf_nil _, hb⟩)
  have hb1 := below_box w (.cells #[.int .i64 0, .int .i64 0, .int .i64 0, .int .i64 0, .slice none 0 0, .slice none 0 0] 25)
  have hv1 := SgV.new w 0 0 0 0 (.slice none 0 0) (.slice none 0 0) 25
  have hx1 := Six.new w (.int .i64 0) (.int .i64 0) (.int .i64 0) (.int .i64 0) (.slice none 0 0) (.slice none 0 0) 25
  have hs1 : (w.alloc (.cells #[.int .i64 0, .int .i64 0, .int .i64 0, .int .i64 0, .slice none 0 0, .slice none 0 0] 25)).heap.size = w.heap.size + 1 := by simp
  have HS := Lib.hid h
  have HL := Lib.hid hL
  have HW := Lib.hid hw
  have HE := Lib.hid (And.intro hid hk)
  clear h hL hw hid hk
  go_enter Tryz.func13, Tryz.ntmps13
  go_upto_region 1 with fail
  generalize (w.alloc (.cells #[.int .i64 0, .int .i64 0, .int .i64 0, .int .i64 0, .slice none 0 0, .slice none 0 0] 25)) = w1 at *
  have HB1 := Lib.hid hb1
  have HV1 := Lib.hid hv1
  have HS1 := Lib.hid hs1
  have HX1 := Lib.hid hx1
  clear hb1 hv1 hs1 hx1
  have i02 : ¬ (2 : Int) = 0 := by omega
  go_cut [36] (fun c wx => c = .bool (decide (id < 1 ∨ id > 1073741824 ∨ k < 1 ∨ k > 3)) ∧ w1 = wx)
  case first =>
    by_cases q0 : id < 1
    · have HE : Hid (decide (id < 1 ∨ id > 1073741824 ∨ k < 1 ∨ k > 3) = true) := Lib.hid (decide_eq_true (by omega))
      go_wp2
      go_meet
      exact ⟨by rw [HE.out], rfl⟩
    by_cases q1 : id > 1073741824
    · have HE : Hid (decide (id < 1 ∨ id > 1073741824 ∨ k < 1 ∨ k > 3) = true) := Lib.hid (decide_eq_true (by omega))
      go_wp2
      go_meet
      exact ⟨by rw [HE.out], rfl⟩
    by_cases q2 : k < 1
    · have HE : Hid (decide (id < 1 ∨ id > 1073741824 ∨ k < 1 ∨ k > 3) = true) := Lib.hid (decide_eq_true (by omega))
      go_wp2
      go_meet
      exact ⟨by rw [HE.out], rfl⟩
    by_cases q3 : k > 3
    · have HE : Hid (decide (id < 1 ∨ id > 1073741824 ∨ k < 1 ∨ k > 3) = true) := Lib.hid (decide_eq_true (by omega))
      go_wp2
      go_meet
      exact ⟨by rw [HE.out], rfl⟩
    have HE : Hid (decide (id < 1 ∨ id > 1073741824 ∨ k < 1 ∨ k > 3) = false) := Lib.hid (decide_eq_false (by omega))
    go_wp2
    go_meet
    exact ⟨by rw [HE.out], rfl⟩
  case rest =>
    obtain ⟨rfl, rfl⟩ := hcut
    by_cases hb : id < 1 ∨ id > 1073741824 ∨ k < 1 ∨ k > 3
    · have HN : Hid (rollS l id k = (Sg.zero, 1)) := Lib.hid (by unfold rollS; rw [if_neg (by rintro ⟨h1, h2, _⟩; unfold coarse at h2; omega)])
      rw [decide_eq_true hb]
      obtain ⟨d0, d1, d2, d3, d4, d5, y0, y1, y2, y3, y4, y5⟩ := HV1.out
      clear hb
      go_wp2
      (try simp only [Exit.inBlock, Exit.then])
      refine bodyPost_ret (v := .tuple #[.agg #[.int .i64 0, .int .i64 0, .int .i64 0, .int .i64 0, .slice none 0 0, .slice none 0 0], .int .i64 1]) ?_ rfl (HF.out _ _ HN.out ?_)
      · rw [results_cell_tmp rfl]
        go_simp
      · first | with_reducible exact HB1.out | with_reducible exact below_set6 HB1.out (Nat.le_refl _)
    · rw [decide_eq_false hb]
      have HID : Hid (1 ≤ id ∧ id ≤ 1073741824) := Lib.hid (by omega)
      have HK : Hid (coarse k) := Lib.hid (by unfold coarse; omega)
      have HI0 : Hid (RO w w1 l 0 (.slice none 0 0) (.slice none 0 0)) := Lib.hid ⟨World.ownsRow_nil _ _ _ _, World.ownsRow_nil _ _ _ _, by rfl, fun a h => (by cases h), HV1.out, HB1.out, by simp [smN, agN], HX1.out⟩
      have hsub : IntKind.i64.wrap (k - 1) = k - 1 := by rw [IntKind.wrap_i64]; omega
      clear hb HB1 HV1
      go_wp2
      go_loopw [8, 9, 10] (fun s8 s9 s10 wr => ∃ (j : Nat) (v8 v9 : Value), j ≤ 2 ∧ v8 = s8 ∧ v9 = s9 ∧ s10 = .int .i64 (j : Int) ∧ Hid (∀ i, i < j → rowAt l (k - 1) i) ∧ Hid (RO w wr l j v8 v9)) (fun _ _ s10 _ => 2 - (intOf s10).toNat)
      case atStart => exact ⟨0, _, _, by omega, rfl, rfl, rfl, Lib.hid (fun i hi => absurd hi (by omega)), HI0⟩
      case round =>
        obtain ⟨j, v8, v9, hj, rfl, rfl, rfl, HR, HI⟩ := hrel
        by_cases hlt : j < 2
        · obtain ⟨A, n, ca, B, m, cb, hs0⟩ := HS.out j (by rw [HL.out]; exact hlt)
          have hs := hs0.below HI.out.below
          have hat : rowAt l (k - 1) j ↔ (sgAt l j).may ∧ (sgAt l j).tier = k - 1 ∧ (0 < j → (sgAt l j).fr = (sgAt l (j - 1)).tz) := Iff.rfl
          obtain ⟨sj, hsj⟩ : ∃ sj, sgAt l j = sj := ⟨_, rfl⟩
          rw [hsj] at hat hs hs0
          have HSW := Lib.hid hs0
          clear hs0
          have HSJ := Lib.hid hsj
          clear hsj
          obtain ⟨i', k', f', t', sm, ag⟩ := sj
          simp only at hat
          have HSC := Lib.hid hs
          obtain ⟨c0, c1, c2, c3, c4, c5, hseg⟩ := hs
          simp only at c0 c1 c2 c3
          have hcap : (j : Int) < 2 := by omega
          have i1 : (0 : Int) ≤ (j : Int) := by omega
          have hkin : In64 k' := hseg.ok.2.1
          have HWR := Lib.hid (HW.out.below HI.out.below)
          have D0 : ∀ u : SubB wr, u.w.cell? ⟨g, off + j * 6, none⟩ = some (.int .i64 i') := fun u => (HSC.out.below u.le).c0
          have D1 : ∀ u : SubB wr, u.w.cell? ⟨g, off + j * 6 + 1, none⟩ = some (.int .i64 k') := fun u => (HSC.out.below u.le).c1
          have D2 : ∀ u : SubB wr, u.w.cell? ⟨g, off + j * 6 + 2, none⟩ = some (.int .i64 f') := fun u => (HSC.out.below u.le).c2
          have D3 : ∀ u : SubB wr, u.w.cell? ⟨g, off + j * 6 + 3, none⟩ = some (.int .i64 t') := fun u => (HSC.out.below u.le).c3
          have D4 : ∀ u : SubB wr, u.w.cell? ⟨g, off + j * 6 + 4, none⟩ = some (.slice A n ca) := fun u => (HSC.out.below u.le).c4
          have D5 : ∀ u : SubB wr, u.w.cell? ⟨g, off + j * 6 + 5, none⟩ = some (.slice B m cb) := fun u => (HSC.out.below u.le).c5
          have m1 := fun u (hu : Below wr.heap.size wr u) => mayseg_any (HSC.out.at_.below hu) (HWR.out.below hu)
          clear hseg c0 c1 c2 c3 c4 c5
          go_upto_region 8 with fail
          obtain ⟨BV, hBV⟩ : ∃ b : Bool, (b = true ↔ ¬ rowAt l (k - 1) j) := by
            by_cases e : rowAt l (k - 1) j
            · exact ⟨false, by simp [e]⟩
            · exact ⟨true, by simp [e]⟩
          go_cut [77] (fun c wx => c = .bool BV ∧ Hid (Below wr.heap.size wr wx))
          case first =>
            by_cases hma : Sg.may ⟨i', k', f', t', sm, ag⟩
            case neg =>
              rw [decide_eq_false hma] at m1
              have M1 := Lib.hid m1
              have HBV : Hid (BV = true) := Lib.hid (hBV.2 (fun h => hma (hat.1 h).1))
              clear m1 hat hma hBV
              refine wp_region_calm (by kernel_rfl) (by kernel_rfl) ?_
              repeat (go_big_quiet_step ((first | (go_at_call 15; exact calm_call (M1.out _ (SubB.le _))))))
              refine wpQuiet_nil ?_
              rintro _ ⟨u, rfl⟩
              clear D0 D1 D2 D3 D4 D5
              go_wp2
              go_meet
              exact ⟨by rw [HBV.out], Lib.hid u.le⟩
            rw [decide_eq_true hma] at m1
            have M1 := Lib.hid m1
            clear m1
            by_cases hti : k' = k - 1
            case neg =>
              have hti' : (k' != k - 1) = true := by simpa using hti
              have HBV : Hid (BV = true) := Lib.hid (hBV.2 (fun h => hti (hat.1 h).2.1))
              clear hat hma hti hBV
              refine wp_region_calm (by kernel_rfl) (by kernel_rfl) ?_
              repeat (go_big_quiet_step ((first | (go_at_call 15; exact calm_call (M1.out _ (SubB.le _))))))
              refine wpQuiet_nil ?_
              rintro _ ⟨u, rfl⟩
              clear D0 D1 D2 D3 D4 D5
              go_wp2
              go_meet
              exact ⟨by rw [HBV.out], Lib.hid u.le⟩
            have hti' : (k' != k - 1) = false := by simpa using hti
            have HMA := Lib.hid hma
            have HTI := Lib.hid hti
            clear hma hti
            by_cases hj0 : j = 0
            · have HBV : Hid (BV = false) := Lib.hid (Bool.eq_false_iff.2 (fun e => hBV.1 e (hat.2 ⟨HMA.out, HTI.out, fun h => absurd h (by omega)⟩)))
              have hje : ¬ (j : Int) > 0 := by omega
              have hjn : ¬ 0 < j := by omega
              clear hat hj0 hBV
              refine wp_region_calm (by kernel_rfl) (by kernel_rfl) ?_
              repeat (go_big_quiet_step ((first | (go_at_call 15; exact calm_call (M1.out _ (SubB.le _))))))
              refine wpQuiet_nil ?_
              rintro _ ⟨u, rfl⟩
              clear D0 D1 D2 D3 D4 D5
              go_wp2
              go_meet
              exact ⟨by rw [HBV.out], Lib.hid u.le⟩
            · have hje : (j : Int) > 0 := by omega
              have hjn : 0 < j := by omega
              obtain ⟨A2, n2, ca2, B2, m2, cb2, hs'⟩ := (HS.out.below HI.out.below) (j - 1) (by rw [HL.out]; omega)
              obtain ⟨tz, htz⟩ : ∃ tz, tz = (sgAt l (j - 1)).tz := ⟨_, rfl⟩
              have D6 : ∀ u : SubB wr, u.w.cell? ⟨g, off + (j - 1) * 6 + 3, none⟩ = some (.int .i64 tz) := fun u => by rw [htz]; exact (hs'.below u.le).c3
              rw [← htz] at hat
              have i2 : (1 : Int) ≤ (j : Int) := by omega
              have i3 : (0 : Int) ≤ (j : Int) - 1 := by omega
              have i4 : (j : Int) - 1 < 2 := by omega
              have i5 : ((j : Int) - 1).toNat = j - 1 := by omega
              have i6 : IntKind.i64.wrap ((j : Int) - 1) = (j : Int) - 1 := by rw [IntKind.wrap_i64]; omega
              clear hs' htz
              by_cases hft : f' = tz
              case neg =>
                have hft' : (f' != tz) = true := by simpa using hft
                have HBV : Hid (BV = true) := Lib.hid (hBV.2 (fun h => hft ((hat.1 h).2.2 (by omega))))
                clear hat hft hj0 hBV
                refine wp_region_calm (by kernel_rfl) (by kernel_rfl) ?_
                repeat (go_big_quiet_step ((first | (go_at_call 15; exact calm_call (M1.out _ (SubB.le _))))))
                refine wpQuiet_nil ?_
                rintro _ ⟨u, rfl⟩
                clear D0 D1 D2 D3 D4 D5 D6
                go_wp2
                go_meet
                exact ⟨by rw [HBV.out], Lib.hid u.le⟩
              have hft' : (f' != tz) = false := by simpa using hft
              have HBV : Hid (BV = false) := Lib.hid (Bool.eq_false_iff.2 (fun e => hBV.1 e (hat.2 ⟨HMA.out, HTI.out, fun _ => hft⟩)))
              clear hat hft hj0 hBV
              refine wp_region_calm (by kernel_rfl) (by kernel_rfl) ?_
              repeat (go_big_quiet_step ((first | (go_at_call 15; exact calm_call (M1.out _ (SubB.le _))))))
              refine wpQuiet_nil ?_
              rintro _ ⟨u, rfl⟩
              clear D0 D1 D2 D3 D4 D5 D6
              go_wp2
              go_meet
              exact ⟨by rw [HBV.out], Lib.hid u.le⟩
          case rest =>
            obtain ⟨rfl, HBX⟩ := hcut
            cases BV with
            | true =>
              have HN : Hid (rollS l id k = (Sg.zero, 1)) := Lib.hid (by
                unfold rollS
                rw [if_neg]
                rintro ⟨_, _, hch⟩
                have h1 := (chain_iff (q := k - 1) l).1 (by rw [show k - 1 + 1 = k by omega]; exact hch)
                exact hBV.1 rfl (h1.2 j (by rw [HL.out]; exact hlt)))
              have HBB := Lib.hid (past HI.out.below HBX.out)
              obtain ⟨d0, d1, d2, d3, d4, d5, y0, y1, y2, y3, y4, y5⟩ := HI.out.res.below HBX.out
              clear D0 D1 D2 D3 D4 D5 m1 hat hBV HR
              go_wp2
              (try simp only [Exit.inBlock, Exit.then, Exit.noGoto])
              refine bodyPost_ret (v := .tuple #[.agg #[.int .i64 0, .int .i64 0, .int .i64 0, .int .i64 0, .slice none 0 0, .slice none 0 0], .int .i64 1]) ?_ rfl (HF.out _ _ HN.out ?_)
              · rw [results_cell_tmp rfl]
                go_simp
              · first | with_reducible exact HBB.out | with_reducible exact below_set6 HBB.out (Nat.le_refl _)
            | false =>
              have hrow : rowAt l (k - 1) j := Classical.byContradiction (fun h => by have := hBV.2 h; cases this)
              have HR2 : Hid (∀ i, i < j + 1 → rowAt l (k - 1) i) := Lib.hid (fun i hi => by
                rcases Nat.lt_or_ge i j with h | h
                · exact HR.out i h
                · rw [show i = j by omega]; exact hrow)
              have HROWJ := Lib.hid (hat.1 hrow)
              have HSX := Lib.hid (HSC.out.below HBX.out)
              have HRAW := Lib.hid (own_on HI.out.raw HBX.out)
              have HFIN := Lib.hid (own_on HI.out.fine HBX.out)
              have HBB := Lib.hid (past HI.out.below HBX.out)
              have HRES := Lib.hid (HI.out.res.below HBX.out)
              have HBXX := Lib.hid HBX.out
              clear D0 D1 D2 D3 D4 D5 m1 hat hBV HR hrow HBX HSC HWR
              have HSN := Lib.hid HSX.out.at_.sn
              have HROWS := Lib.hid HSX.out.at_.sm
              have HROWA := Lib.hid HSX.out.at_.ag
              have HLEN : Hid (sm.length ≤ 64 ∧ ag.length ≤ 64) := Lib.hid (by
                have hA := ((may_split _).1 HROWJ.out.1).2.2.2.2
                simp only at hA
                by_cases h0 : k' = 0
                · rw [if_pos h0] at hA
                  exact ⟨hA.2.2.1, by omega⟩
                · rw [if_neg h0] at hA
                  exact ⟨by omega, hA.2.2.1⟩)
              have HBIG : Hid ((smN l j).length + n ≤ 100000) := Lib.hid (by
                have h1 := HI.out.len.1
                have h2 := HSN.out
                have h3 := HLEN.out.1
                simp only at h2
                omega)
              have HBASE : Hid (w.heap.size + 1 ≤ wc.heap.size) := Lib.hid (by have := HRES.out.lt; omega)
              obtain ⟨c0, c1, c2, c3, c4, c5, _⟩ := HSX.out
              simp only at c0 c1 c2 c3 c4 c5
              go_wp2_with (at_builtin; refine wpList_append_samps rfl _ _ rfl (w.heap.size + 1) _ _ n (smN l j) sm rfl HRAW.out A ca rfl HSN.out HROWS.out HBIG.out HBASE.out ?_)
              intro v3 w3 hown hgrow
              obtain ⟨A9, c9, hv9⟩ := own_slc HFIN.out
              subst hv9
              have HIO : Hid (IO w w3 l j ag 0 (meetOn [] (agN l j)).1 v3 A9 c9) := Lib.hid (by
                have hjl : j < l.length := by rw [HL.out]; exact hlt
                have hb : Below (w.heap.size + 1) wc w3 := ((Below.refl wc.heap.size wc).mono HBASE.out).grown hgrow HBASE.out (fun k e => (HRAW.out.lt k e).1)
                have hsm : smN l (j + 1) = smN l j ++ sm := by rw [smN_succ hjl, HSJ.out]
                have hag : agN l (j + 1) = agN l j ++ ag := by rw [agN_succ hjl, HSJ.out]
                have hsn : sm.length = n := HSN.out
                refine ⟨?_, HFIN.out.kept hgrow (apart_types HFIN.out HRAW.out (by decide)), HI.out.okf, ?_, HRES.out.of (fun i => hb.cell (by simp)) (fun i => hb.frozen (by simp)), HBB.out.trans (hb.mono (Nat.le_succ _)), ?_, ?_⟩
                · rw [hsm, List.length_append, hsn]
                  exact hown
                · rw [hag, meetOn_append, if_pos HI.out.okm, List.drop_zero]
                · have h1 := meetOn_len (agN l j) []
                  have h2 := HI.out.len.2
                  simp only [List.length_nil] at h1
                  omega
                · intro o ho
                  rw [hb.cell (by simp)]
                  exact (HI.out.six.below (Nat.lt_of_lt_of_le (Nat.lt_succ_self _) HI.out.res.lt) HBXX.out) o ho)
              have HLN1 : Hid ((smN l (j + 1)).length ≤ 64 * (j + 1) ∧ (agN l (j + 1)).length ≤ 64 * (j + 1)) := Lib.hid (by
                have hjl : j < l.length := by rw [HL.out]; exact hlt
                have h1 := HI.out.len
                have h2 := HLEN.out
                rw [smN_succ hjl, agN_succ hjl, HSJ.out, List.length_append, List.length_append]
                simp only
                omega)
              clear hown hgrow c0 c1 c2 c3 c4 c5 HRAW HFIN HRES HBB HBIG HBASE HSX HROWS HSN HI
              generalize (meetOn [] (agN l j)).1 = out0 at *
              go_wp2
              go_loopw [9, 11, 12, 13, 14, 15] (fun s9 s11 s12 s13 s14 s15 wr => ∃ (q : Nat) (out : List Ag) (A9 : Option Addr) (c9 : Nat), s9 = .slice A9 out.length c9 ∧ s11 = .int .i64 (q : Int) ∧ q ≤ m ∧ Hid (IO w wr l j ag q out v3 A9 c9)) (fun _ s11 _ _ _ _ _ => m - (intOf s11).toNat)
              case atStart => exact ⟨0, out0, A9, c9, rfl, rfl, Nat.zero_le _, HIO⟩
              case round =>
                clear HIO
                obtain ⟨q, out, A9, c9, rfl, rfl, hq, HIO⟩ := hrel
                have HSR := Lib.hid (HSW.out.below HIO.out.below)
                have hml : ag.length = m := HSR.out.at_.ag.1
                have HML := Lib.hid hml
                have s5 := HSR.out.c5
                have hq0 : (0 : Int) ≤ (q : Int) := by omega
                by_cases hql : q < m
                case neg =>
                  obtain rfl : q = m := by omega
                  have hq' : ¬ (q : Int) < (q : Int) := by omega
                  have HIN : Hid (RO w wr l (j + 1) v3 (.slice A9 out.length c9)) := Lib.hid (by
                    have hs := HIO.out.says
                    rw [List.drop_of_length_le (by rw [HML.out]; exact Nat.le_refl _), meetOn] at hs
                    exact ⟨HIO.out.raw, by rw [hs]; exact HIO.out.fine, by rw [hs], by rw [hs]; exact HIO.out.okf, HIO.out.res, HIO.out.below, HLN1.out, HIO.out.six⟩)
                  have hj2 : j + 1 ≤ 2 := by omega
                  clear hml HIO HSR
                  go_wp2
                  go_roundw
                  case rel => exact ⟨j + 1, v3, .slice A9 out.length c9, hj2, rfl, rfl, by go_num, HR2, HIN⟩
                  case measure => simp [intOf]; omega
                have hqi : (q : Int) < (m : Int) := by omega
                obtain ⟨b2, o2, hB, hcw⟩ := HSR.out.at_.ag.2.1.2 (by show 0 < ag.length; omega)
                have hbx : B = some ⟨b2, o2, none⟩ := hB
                obtain ⟨s10, s11, s12, s13, s14, s15, s16⟩ := hcw q (by show q < ag.length; omega)
                have hmx := HSR.out.at_.ag.2.2.1
                have hmx2 := HSR.out.at_.ag.2.2.2.1
                have haok : (agAt ag q).ok := HSR.out.at_.ag.2.1.1 _ (agg_mem (l := ag) (by omega))
                obtain ⟨a, ha⟩ : ∃ a, agAt ag q = a := ⟨_, rfl⟩
                have hsx : agAt (Sg.ag ⟨i', k', f', t', sm, ag⟩) q = a := ha
                rw [hsx] at s10 s11 s12 s13 s14 s15 s16
                rw [ha] at haok
                have HA := Lib.hid ha
                have HAOK := Lib.hid haok
                have HQ := Lib.hid hql
                unfold maxLen at hmx2
                subst hbx
                have HH1 : Hid (Later (wr.alloc (.cells #[.int .i64 a.fr, .int .i64 a.cn, .int .i64 a.sm, .int .i64 a.mn, .int .i64 a.mx, .int .i64 a.fi, .int .i64 a.la] 50)) fun u => Holds u wr.heap.size a) := Lib.hid (fun u hu => (Holds.new wr a).below hu)
                have HIO1 : Hid (IO w (wr.alloc (.cells #[.int .i64 a.fr, .int .i64 a.cn, .int .i64 a.sm, .int .i64 a.mn, .int .i64 a.mx, .int .i64 a.fi, .int .i64 a.la] 50)) l j ag q out v3 A9 c9) := Lib.hid (HIO.out.on (below_box wr _))
                have HON : Hid (out.length ≤ 1000) := Lib.hid (by have := HIO.out.len; have := HLEN.out.2; omega)
                clear hml hcw hsx ha haok hB HIO HSR
                go_upto_region 15 with fail
                generalize wr.alloc (.cells #[.int .i64 a.fr, .int .i64 a.cn, .int .i64 a.sm, .int .i64 a.mn, .int .i64 a.mx, .int .i64 a.fi, .int .i64 a.la] 50) = W1 at *
                generalize wr.heap.size = g12 at *
                clear s5 s10 s11 s12 s13 s14 s15 s16
                obtain ⟨on, hon⟩ : ∃ on, out.length = on := ⟨_, rfl⟩
                have hon2 : on ≤ 1000 := by rw [← hon]; exact HON.out
                have i6 : IntKind.i64.wrap ((on : Int) - 1) = (on : Int) - 1 := by rw [IntKind.wrap_i64]; omega
                have HONE := Lib.hid hon
                rw [hon]
                clear hon
                obtain ⟨BJ, hBJ⟩ : ∃ b : Bool, (b = true ↔ (0 < out.length ∧ (agAt out (out.length - 1)).fr = a.fr)) := by
                  by_cases e : 0 < out.length ∧ (agAt out (out.length - 1)).fr = a.fr
                  · exact ⟨true, by simp [e]⟩
                  · exact ⟨false, by simp [e]⟩
                have HBJ := Lib.hid hBJ
                clear hBJ
                go_upto_region 16 with fail
                go_cut [118] (fun c wx => c = .bool BJ ∧ Hid (Below W1.heap.size W1 wx))
                case first =>
                  obtain ⟨h0_, _, _, _, _, _, _⟩ := HH1.out.now
                  by_cases h0 : 0 < on
                  · obtain ⟨gv, cv, e9, hcv, hmv, hbg, hltg, hcell⟩ := own7_form HIO1.out.fine (by rw [HONE.out]; exact h0)
                    injection e9 with e9 _ e9c
                    subst e9
                    clear e9c
                    obtain ⟨l0, _, _, _, _, _, _⟩ := hcell (out.length - 1) (by rw [HONE.out]; omega)
                    obtain ⟨la, hla⟩ : ∃ x, agAt out (out.length - 1) = x := ⟨_, rfl⟩
                    rw [hla] at l0 HBJ
                    rw [HONE.out] at l0
                    have d1 : (1 : Int) ≤ (on : Int) := by omega
                    have i7 : ((on : Int) - 1).toNat = on - 1 := by omega
                    have i8 : (0 : Int) ≤ (on : Int) - 1 := by omega
                    have i9 : (on : Int) - 1 < (on : Int) := by omega
                    by_cases hfe : la.fr = a.fr
                    · have HV : Hid (BJ = true) := Lib.hid (HBJ.out.2 ⟨by rw [HONE.out]; exact h0, hfe⟩)
                      have q1 : (la.fr == a.fr) = true := by simpa using hfe
                      clear hfe hcell hla
                      go_quiet (fail)
                      go_wp2
                      go_meet
                      case rel => exact ⟨by rw [HV.out], Lib.hid (belowN _ _)⟩
                    · have HV : Hid (BJ = false) := Lib.hid (Bool.eq_false_iff.2 (fun e => hfe (HBJ.out.1 e).2))
                      have q1 : (la.fr == a.fr) = false := by simpa using hfe
                      clear hfe hcell hla
                      go_quiet (fail)
                      go_wp2
                      go_meet
                      case rel => exact ⟨by rw [HV.out], Lib.hid (belowN _ _)⟩
                  · have HV : Hid (BJ = false) := Lib.hid (Bool.eq_false_iff.2 (fun e => h0 (by rw [← HONE.out]; exact (HBJ.out.1 e).1)))
                    have d1 : ¬ (1 : Int) ≤ (on : Int) := by omega
                    go_quiet (fail)
                    go_wp2
                    go_meet
                    case rel => exact ⟨by rw [HV.out], Lib.hid (belowN _ _)⟩
                case rest =>
                  obtain ⟨rfl, HBW⟩ := hcut
                  obtain ⟨WX, hWX⟩ : ∃ WX, WX = wc := ⟨_, rfl⟩
                  rw [← hWX] at HBW ⊢
                  clear hWX
                  have HIO2 := Lib.hid (HIO1.out.on HBW.out)
                  have HH2 := Lib.hid (HH1.out.on HBW.out)
                  have hqa : q < ag.length := by rw [HML.out]; exact HQ.out
                  have HQA := Lib.hid hqa
                  have hq2 : q + 1 ≤ m := by omega
                  have hib : q + 1 < 4611686018427387904 := by have h1 := HLEN.out.2; have h2 := HML.out; have h3 := HQ.out; (try simp only at h1); omega
                  clear HIO1 HH1 HBW hqa
                  cases BJ with
                  | false =>
                    have HNJ : Hid (¬ (0 < out.length ∧ (agAt out (out.length - 1)).fr = a.fr)) := Lib.hid (fun h => by have := HBJ.out.2 h; cases this)
                    obtain ⟨x0, x1, x2, x3, x4, x5, x6⟩ := HH2.out.now
                    have HO : Hid ((WX.alloc (.cells #[.int .i64 a.fr, .int .i64 a.cn, .int .i64 a.sm, .int .i64 a.mn, .int .i64 a.mx, .int .i64 a.fi, .int .i64 a.la] 50)).ownsRow (w.heap.size + 1) 50 7 (.slice A9 on c9) on (aggV out)) := Lib.hid (by
                      have h := (HIO2.out.on (below_box WX (.cells #[.int .i64 a.fr, .int .i64 a.cn, .int .i64 a.sm, .int .i64 a.mn, .int .i64 a.mx, .int .i64 a.fi, .int .i64 a.la] 50))).fine
                      rw [HONE.out] at h
                      exact h)
                    have HRX : Hid (RowOf (WX.alloc (.cells #[.int .i64 a.fr, .int .i64 a.cn, .int .i64 a.sm, .int .i64 a.mn, .int .i64 a.mx, .int .i64 a.fi, .int .i64 a.la] 50)) (some ⟨WX.heap.size, 0, none⟩) 1 1 [a]) := Lib.hid ⟨rfl, ⟨fun x hx => by rw [List.mem_singleton] at hx; rw [hx]; exact HAOK.out, fun _ => ⟨WX.heap.size, 0, rfl, fun j hj => by
                      obtain rfl : j = 0 := by simpa using hj
                      exact Holds.new WX a⟩⟩, Nat.le_refl _, by unfold maxLen; omega, fun e => by cases e⟩
                    have HBIG : Hid (on + 1 ≤ 100000) := Lib.hid (by omega)
                    have HBAS : Hid (w.heap.size + 1 ≤ (WX.alloc (.cells #[.int .i64 a.fr, .int .i64 a.cn, .int .i64 a.sm, .int .i64 a.mn, .int .i64 a.mx, .int .i64 a.fi, .int .i64 a.la] 50)).heap.size) := Lib.hid (HIO2.out.on (below_box WX _)).lt
                    go_wp2_with (at_builtin; refine wpList_append_aggs rfl _ _ rfl (w.heap.size + 1) (.slice A9 on c9) on 1 out [a] rfl HO.out (some ⟨WX.heap.size, 0, none⟩) 1 rfl HRX.out HBIG.out HBAS.out ?_)
                    intro v5 w5 hown5 hg5
                    obtain ⟨A', c', rfl, hio⟩ := (HIO2.out.on (below_box WX (.cells #[.int .i64 a.fr, .int .i64 a.cn, .int .i64 a.sm, .int .i64 a.mn, .int .i64 a.mx, .int .i64 a.fi, .int .i64 a.la] 50))).add HQA.out HA.out HAOK.out HNJ.out (by rw [HONE.out]; exact hown5) (by rw [HONE.out]; exact hg5)
                    have HIN := Lib.hid hio
                    clear hown5 hg5 hio x0 x1 x2 x3 x4 x5 x6 HO HRX HBIG HBAS HIO2 HH2
                    go_wp2
                    go_roundw
                    case rel => exact ⟨q + 1, out ++ [a], A', c', rfl, by go_num, hq2, HIN⟩
                    case measure => simp [intOf]; omega
                  | true =>
                    obtain ⟨hm1, hm2⟩ := HBJ.out.1 rfl
                    have HMJ := Lib.hid (And.intro hm1 hm2)
                    obtain ⟨gv, cv, e9, hcv, hmv, hbg, hltg, hcell⟩ := own7_form HIO2.out.fine hm1
                    injection e9 with e9 _ e9c
                    subst e9
                    clear e9c
                    have hlast := hcell (out.length - 1) (by omega)
                    have hoka : (agAt out (out.length - 1)).ok := HIO2.out.okf _ (agg_mem (by omega))
                    obtain ⟨la, hla⟩ : ∃ x, agAt out (out.length - 1) = x := ⟨_, rfl⟩
                    rw [hla] at hlast hoka
                    rw [HONE.out] at hlast hm1
                    have HLA := Lib.hid hla
                    obtain ⟨⟨ja, jc⟩, hj⟩ : ∃ x, join la a = x := ⟨_, rfl⟩
                    have hjok := join_ok hoka HAOK.out
                    have m6 := fun u => rjoin_any la a u hoka HAOK.out
                    rw [hj] at m6 hjok
                    simp only at m6 hjok
                    unfold Ag.val at m6
                    have M6 := Lib.hid m6
                    have HJ := Lib.hid (And.intro hj hjok)
                    have i7 : ((on : Int) - 1).toNat = on - 1 := by omega
                    have i8 : (0 : Int) ≤ (on : Int) - 1 := by omega
                    have i9 : (on : Int) - 1 < (on : Int) := by omega
                    have HLAST := Lib.hid hlast
                    obtain ⟨l0, l1, l2, l3, l4, l5, l6⟩ := hlast
                    obtain ⟨x0, x1, x2, x3, x4, x5, x6⟩ := HH2.out.now
                    have hltx : g12 < WX.heap.size := World.block_lt_of_cell? WX _ x0
                    have hneg : gv ≠ WX.heap.size := Nat.ne_of_lt hltg
                    have hnex : g12 ≠ WX.heap.size := Nat.ne_of_lt hltx
                    have HSK : Hid (∀ w', Below WX.heap.size WX w' → HoldsAt w' gv ((on - 1) * 7) la ∧ Holds w' g12 a) := Lib.hid (fun w' hb => ⟨HLAST.out.below hb, HH2.out w' hb⟩)
                    clear hcell hla hj hjok m6 hoka hm1 hm2 hcv hmv
                    go_upto_region 17 with fail
                    go_cut [14, 15] (fun s14 s15 wx2 => ∃ g14, s14 = .pointer (some ⟨g14, 0, none⟩) ∧ s15 = .int .i64 jc ∧ Hid (Holds wx2 g14 ja ∧ Below WX.heap.size WX wx2))
                    case first =>
                      go_region_with (first
                        | (go_at_call 38
                           first
                             | (refine (M6.out _).mono ?_; rintro e wt ⟨rfl, hbt⟩
                                have hB : Below WX.heap.size WX wt := (belowN WX 1).trans hbt)
                             | (refine (M6.out _).mono ?_; rintro e wt ⟨rfl, hbt⟩
                                have hbt' := (belowN (WX.alloc (.cells #[.int .i64 0, .int .i64 0, .int .i64 0, .int .i64 0, .int .i64 0, .int .i64 0, .int .i64 0] 50)) 1).trans hbt
                                have hB : Below WX.heap.size WX wt := past (past_alloc (Below.refl _ _) _) hbt'
                                have hz8 : Holds wt WX.heap.size Ag.zero := (zero_new WX).1.below hbt'
                                have hf8 : Free wt WX.heap.size := (zero_new WX).2.1.below (zero_new WX).2.2 hbt'
                                unfold Ag.zero at hz8
                                obtain ⟨z0, z1, z2, z3, z4, z5, z6⟩ := hz8
                                obtain ⟨f0, f1, f2, f3, f4, f5, f6⟩ := hf8)))
                      all_goals first
                        | (have HT : Hid (Holds (((((((wt.setCell ⟨WX.heap.size, 0, none⟩ (.int .i64 ja.fr)).setCell ⟨WX.heap.size, 1, none⟩ (.int .i64 ja.cn)).setCell ⟨WX.heap.size, 2, none⟩ (.int .i64 ja.sm)).setCell ⟨WX.heap.size, 3, none⟩ (.int .i64 ja.mn)).setCell ⟨WX.heap.size, 4, none⟩ (.int .i64 ja.mx)).setCell ⟨WX.heap.size, 5, none⟩ (.int .i64 ja.fi)).setCell ⟨WX.heap.size, 6, none⟩ (.int .i64 ja.la)) WX.heap.size ja ∧ Below WX.heap.size WX (((((((wt.setCell ⟨WX.heap.size, 0, none⟩ (.int .i64 ja.fr)).setCell ⟨WX.heap.size, 1, none⟩ (.int .i64 ja.cn)).setCell ⟨WX.heap.size, 2, none⟩ (.int .i64 ja.sm)).setCell ⟨WX.heap.size, 3, none⟩ (.int .i64 ja.mn)).setCell ⟨WX.heap.size, 4, none⟩ (.int .i64 ja.mx)).setCell ⟨WX.heap.size, 5, none⟩ (.int .i64 ja.fi)).setCell ⟨WX.heap.size, 6, none⟩ (.int .i64 ja.la))) := Lib.hid ⟨holds_set (a0 := Ag.zero) ⟨z0, z1, z2, z3, z4, z5, z6⟩, below_set hB (Nat.le_refl _) _ _ _ _ _ _ _⟩
                           clear z0 z1 z2 z3 z4 z5 z6 f0 f1 f2 f3 f4 f5 f6 hbt hbt' hB
                           generalize ((((((wt.setCell ⟨WX.heap.size, 0, none⟩ (.int .i64 ja.fr)).setCell ⟨WX.heap.size, 1, none⟩ (.int .i64 ja.cn)).setCell ⟨WX.heap.size, 2, none⟩ (.int .i64 ja.sm)).setCell ⟨WX.heap.size, 3, none⟩ (.int .i64 ja.mn)).setCell ⟨WX.heap.size, 4, none⟩ (.int .i64 ja.mx)).setCell ⟨WX.heap.size, 5, none⟩ (.int .i64 ja.fi)).setCell ⟨WX.heap.size, 6, none⟩ (.int .i64 ja.la) = wq at *)
                        | (have HT : Hid (Holds (wt.alloc (.cells #[.int .i64 ja.fr, .int .i64 ja.cn, .int .i64 ja.sm, .int .i64 ja.mn, .int .i64 ja.mx, .int .i64 ja.fi, .int .i64 ja.la] 50)) wt.heap.size ja ∧ Below WX.heap.size WX (wt.alloc (.cells #[.int .i64 ja.fr, .int .i64 ja.cn, .int .i64 ja.sm, .int .i64 ja.mn, .int .i64 ja.mx, .int .i64 ja.fi, .int .i64 ja.la] 50))) := Lib.hid ⟨Holds.new wt ja, past_alloc hB _⟩
                           clear hbt hB
                           generalize wt.alloc (.cells #[.int .i64 ja.fr, .int .i64 ja.cn, .int .i64 ja.sm, .int .i64 ja.mn, .int .i64 ja.mx, .int .i64 ja.fi, .int .i64 ja.la] 50) = wq at *)
                      all_goals
                        clear l0 l1 l2 l3 l4 l5 l6 x0 x1 x2 x3 x4 x5 x6
                        go_wp2
                        go_meet
                        case rel => exact ⟨_, rfl, rfl, HT⟩
                    case rest =>
                      obtain ⟨g14, rfl, rfl, HT⟩ := hcut
                      obtain ⟨WY, hWY⟩ : ∃ WY, WY = wc := ⟨_, rfl⟩
                      rw [← hWY] at HT ⊢
                      clear hWY l0 l1 l2 l3 l4 l5 l6 x0 x1 x2 x3 x4 x5 x6 hneg hnex hltx
                      have HIO3 := Lib.hid (HIO2.out.on HT.out.2)
                      obtain ⟨e0, e1, e2, e3, e4, e5, e6⟩ := (HSK.out WY HT.out.2).1
                      obtain ⟨p0, p1, p2, p3, p4, p5, p6⟩ := HT.out.1
                      by_cases hz : jc = 0
                      case neg =>
                        have HN : Hid (rollS l id k = (Sg.zero, jc)) := Lib.hid (roll_bad HL.out HID.out HK.out HROWJ.out HR2.out hlt HSJ.out (by rw [HML.out]; omega) (by
                          have hs := HIO2.out.says
                          rw [drop_ag HQA.out, HA.out, meetOn_step HMJ.out, HLA.out, HJ.out.1, if_neg hz] at hs
                          rw [hs]) hz)
                        have HBB := Lib.hid HIO3.out.below
                        obtain ⟨d0, d1, d2, d3, d4, d5, y0, y1, y2, y3, y4, y5⟩ := HIO3.out.res
                        have hz' : (jc != 0) = true := by simpa using hz
                        clear HIO3 HT HSK HIO2 HH2 e0 e1 e2 e3 e4 e5 e6 p0 p1 p2 p3 p4 p5 p6 hz
                        go_wp2
                        (try simp only [Exit.inBlock, Exit.then, Exit.noGoto])
                        refine bodyPost_ret (v := .tuple #[.agg #[.int .i64 0, .int .i64 0, .int .i64 0, .int .i64 0, .slice none 0 0, .slice none 0 0], .int .i64 jc]) ?_ rfl (HF.out _ _ HN.out ?_)
                        · rw [results_cell_tmp rfl]
                          go_simp
                        · first | with_reducible exact HBB.out | with_reducible exact below_set6 HBB.out (Nat.le_refl _)
                      subst hz
                      have HFI := Lib.hid HIO3.out.fine
                      have f0 := HFI.out.frozenAt ((on - 1) * 7)
                      have f1 := HFI.out.frozenAt ((on - 1) * 7 + 1)
                      have f2 := HFI.out.frozenAt ((on - 1) * 7 + 2)
                      have f3 := HFI.out.frozenAt ((on - 1) * 7 + 3)
                      have f4 := HFI.out.frozenAt ((on - 1) * 7 + 4)
                      have f5 := HFI.out.frozenAt ((on - 1) * 7 + 5)
                      have f6 := HFI.out.frozenAt ((on - 1) * 7 + 6)
                      have HPUT := Lib.hid (HIO3.out.put (ja := ja) (o := (on - 1) * 7) HQA.out HA.out HMJ.out (by rw [HLA.out]; exact HJ.out.1) HJ.out.2 (by rw [HONE.out]))
                      have HLS : Hid ((out.set (out.length - 1) ja).length = on) := Lib.hid (by rw [List.length_set, HONE.out])
                      have h0z : ((0 : Int) != 0) = false := rfl
                      clear HIO3 HT HSK HIO2 HH2 HFI
                      obtain ⟨oo, hoo⟩ : ∃ oo, (on - 1) * 7 = oo := ⟨_, rfl⟩
                      rw [hoo] at e0 e1 e2 e3 e4 e5 e6 f0 f1 f2 f3 f4 f5 f6 HPUT
                      go_wp2
                      go_roundw
                      case rel => exact ⟨q + 1, out.set (out.length - 1) ja, some ⟨gv, 0, none⟩, c9, by rw [HLS.out], by go_num, hq2, HPUT⟩
                      case measure => simp [intOf]; omega
        · skip
          have hj2 : j = 2 := by omega
          subst hj2
          have hj' : ¬ (((2 : Nat) : Int)) < 2 := by omega
          have hj'' : ¬ (2 : Int) < 2 := by omega
          have hch : chain k l := by
            have h1 := (chain_iff (q := k - 1) l).2 ⟨by rw [HL.out]; omega, fun i hi => HR.out i (by rw [HL.out] at hi; exact hi)⟩
            rw [show k - 1 + 1 = k by omega] at h1
            exact h1
          obtain ⟨fr0, hfr0⟩ : ∃ x, x = (sgAt l 0).fr := ⟨_, rfl⟩
          obtain ⟨tz0, htz0⟩ : ∃ x, x = (sgAt l 1).tz := ⟨_, rfl⟩
          have HRE : Hid (rollS l id k = rollEnd id k fr0 tz0 (rollAll l k)) := Lib.hid (by
            unfold rollS
            rw [if_pos ⟨HID.out, HK.out, hch⟩, hfr0, htz0]
            congr 1
            · cases l with
              | nil => exact absurd hch (fun h => h)
              | cons a r => rfl
            · have h2 := HL.out
              unfold sgAt
              rw [List.getD_eq_getElem?_getD, List.getLastD_eq_getLast?, List.getLast?_eq_getElem?, h2])
          have hsm : smN l 2 = l.flatMap Sg.sm := by rw [← HL.out, smN_all]
          have hag : agN l 2 = l.flatMap Sg.ag := by rw [← HL.out, agN_all]
          have HRA1 : Hid (k = 1 → rollAll l k = raw (smN l 2) 1) := Lib.hid (fun e => by unfold rollAll; rw [if_pos e, hsm])
          have HRA2 : Hid (k ≠ 1 → rollAll l k = down (meetOn [] (agN l 2)).1 k) := Lib.hid (fun e => by unfold rollAll; rw [if_neg e, ← hag, if_pos HI.out.okm])
          have HIN2 : Hid (In2 (smN l 2)) := Lib.hid (by
            intro x hx
            rw [hsm] at hx
            obtain ⟨y, hy, hx⟩ := List.mem_flatMap.1 hx
            obtain ⟨i, hi, e⟩ := List.getElem_of_mem hy
            obtain ⟨A, n, ca, B, m, cb, h⟩ := HS.out i hi
            have e2 : sgAt l i = y := by unfold sgAt; rw [List.getD_eq_getElem?_getD, List.getElem?_eq_getElem hi]; exact e
            have := h.at_.ok.2.2.2.2.1
            rw [e2] at this
            exact this x hx)
          obtain ⟨A0, n0, ca0, B0, m0, cb0, hs0⟩ := (HS.out.below HI.out.below) 0 (by rw [HL.out]; omega)
          obtain ⟨A1, n1, ca1, B1, m1, cb1, hs1⟩ := (HS.out.below HI.out.below) 1 (by rw [HL.out]; omega)
          have q0 := hs0.c2
          have q1 := hs1.c3
          rw [← hfr0] at q0
          rw [← htz0] at q1
          rw [Nat.zero_mul, Nat.add_zero] at q0
          rw [Nat.one_mul] at q1
          clear hs0 hs1 hfr0 htz0 hch hsm hag HR
          have i2 : (0 : Int) < 2 := by omega
          have i3 : (1 : Int) < 2 := by omega
          have hgl : g < wr.heap.size := World.block_lt_of_cell? wr _ q0
          have hgne : g ≠ wr.heap.size := Nat.ne_of_lt hgl
          go_upto_region 22 with fail
          go_cut [16] (fun s16 wx => ∃ g16, s16 = .pointer (some ⟨g16, 0, none⟩) ∧ Hid (SgV wx g16 id k fr0 tz0 (.slice none 0 0) (.slice none 0 0) ∧ Six wx g16 ∧ Below wr.heap.size wr wx ∧ g16 = wr.heap.size))
          case first =>
            go_region
            all_goals
              go_wp2
              go_meet
              case rel =>
                refine ⟨_, rfl, Lib.hid ⟨?_, ?_, ?_, rfl⟩⟩
                · first
                    | exact (SgV.new wr id k fr0 tz0 (.slice none 0 0) (.slice none 0 0) 25).below (belowN _ 1)
                    | exact SgV.new wr id k fr0 tz0 (.slice none 0 0) (.slice none 0 0) 25
                · first
                    | exact (Six.new wr _ _ _ _ _ _ 25).below (by simp) (belowN _ 1)
                    | exact Six.new wr _ _ _ _ _ _ 25
                · first
                    | exact past (below_box wr _) (belowN _ 1)
                    | exact below_box wr _
          case rest =>
            obtain ⟨g16, rfl, HT⟩ := hcut
            obtain ⟨WZ, hWZ⟩ : ∃ WZ, WZ = wc := ⟨_, rfl⟩
            rw [← hWZ] at HT ⊢
            clear hWZ q0 q1 hgl hgne
            have HRAW := Lib.hid (own_on HI.out.raw HT.out.2.2.1)
            have HFIN := Lib.hid (own_on HI.out.fine HT.out.2.2.1)
            have HRES := Lib.hid (HI.out.res.below HT.out.2.2.1)
            have HBZ := Lib.hid (past HI.out.below HT.out.2.2.1)
            have HSX := Lib.hid (HI.out.six.below (Nat.lt_of_lt_of_le (Nat.lt_succ_self _) HI.out.res.lt) HT.out.2.2.1)
            have HOK := Lib.hid HI.out.okf
            have HLN : Hid ((smN l 2).length ≤ 1000 ∧ (meetOn [] (agN l 2)).1.length ≤ 1000) := Lib.hid (by
              have h1 := HI.out.len
              have h2 := meetOn_len (agN l 2) []
              simp only [List.length_nil] at h2
              omega)
            have HG16 : Hid (w.heap.size < g16) := Lib.hid (by rw [HT.out.2.2.2]; exact Nat.lt_of_lt_of_le (Nat.lt_succ_self _) HI.out.res.lt)
            have HT2 := Lib.hid (And.intro HT.out.1 HT.out.2.1)
            clear HT HI
            by_cases k1 : k = 1
            case pos =>
              subst k1
              obtain ⟨A8, c8, rfl, hrow, hrl, _⟩ := row_of_own HRAW.out HIN2.out
              have MR := rraw_any (1 : Int) hrl hrow.samps (by rw [← hrl]; exact hrow.le) hrow.max (by rw [← hrl]; have := HLN.out.1; omega)
              rw [← HRA1.out rfl] at MR
              generalize rollAll l 1 = RA at *
              have HMR := Lib.hid MR
              clear MR hrow hrl HRA1 HRA2
              go_wp2_with fail
              refine HMR.out.mono ?_
              rintro e w2 ⟨A, cap, rfl, hb2, hr2⟩
              obtain ⟨la, cd⟩ := RA
              simp only at hr2 HRE ⊢
              have HRE2 := HRE
              have hlen := Nat.le_trans hr2.2.2.1 hr2.2.2.2.1
              unfold maxLen at hlen
              have HV2 := Lib.hid (HT2.out.1.below hb2)
              have HX2 := Lib.hid (HT2.out.2.below HT2.out.1.lt hb2)
              have hg0 : w.heap.size ≠ g16 := Nat.ne_of_lt HG16.out
              have HRES2 : Hid (SgV (w2.setCell ⟨g16, 5, none⟩ (.slice A la.length cap)) w.heap.size 0 0 0 0 (.slice none 0 0) (.slice none 0 0)) := Lib.hid ((HRES.out.below hb2).of (fun i => cell_other hg0) (fun i => by rw [World.frozen?_setCell]))
              have HSX2 : Hid (Six (w2.setCell ⟨g16, 5, none⟩ (.slice A la.length cap)) w.heap.size) := Lib.hid (fun o ho => (cell_other hg0).trans ((HSX.out.below HRES.out.lt hb2) o ho))
              have HV3 := Lib.hid (HV2.out.set5 (.slice A la.length cap))
              have HR3 : Hid (RowOf (w2.setCell ⟨g16, 5, none⟩ (.slice A la.length cap)) A la.length cap la) := Lib.hid (hr2.six HX2.out)
              have HB3 : Hid (Below w.heap.size w (w2.setCell ⟨g16, 5, none⟩ (.slice A la.length cap))) := Lib.hid ((past HBZ.out hb2).setCell (Nat.le_of_lt HG16.out) _)
              obtain ⟨d0, d1, d2, d3, d4, d5, y0, y1, y2, y3, y4, y5⟩ := HV2.out
              clear hb2 hr2 HT2 HRES HSX HRAW HFIN HMR
              go_upto_region 27 with fail
              clear d0 d1 d2 d3 d4 d5 y0 y1 y2 y3 y4 y5
              generalize w2.setCell ⟨g16, 5, none⟩ (.slice A la.length cap) = w3 at *
              obtain ⟨t0, t1, t2, t3, t4, t5, _, _, _, _, _, _⟩ := HV3.out
              obtain ⟨d0, d1, d2, d3, d4, d5, y0, y1, y2, y3, y4, y5⟩ := HRES2.out
              by_cases c5 : cd = 0
              case neg =>
                have c5' : (cd != 0) = true := by simp [c5]
                have HN : Hid (rollS l id 1 = (Sg.zero, cd)) := Lib.hid (by rw [HRE.out]; unfold rollEnd; rw [if_pos c5])
                clear c5 HRE HRE2
                go_wp2
                (try simp only [Exit.inBlock, Exit.then, Exit.noGoto])
                refine bodyPost_ret (v := .tuple #[.agg #[.int .i64 0, .int .i64 0, .int .i64 0, .int .i64 0, .slice none 0 0, .slice none 0 0], .int .i64 cd]) ?_ rfl (HF.out _ _ HN.out ?_)
                · rw [results_cell_tmp rfl]
                  go_simp
                · first | with_reducible exact HB3.out | with_reducible exact below_set6 HB3.out (Nat.le_refl _)
              have c5' : (cd != 0) = false := by simp [c5]
              by_cases c6 : (la.length : Int) > 64
              case pos =>
                have HN : Hid (rollS l id 1 = (Sg.zero, 8)) := Lib.hid (by rw [HRE.out]; unfold rollEnd; rw [if_neg (fun h => h c5), if_pos (by show 64 < la.length; omega)])
                clear c5 HRE HRE2
                go_wp2
                (try simp only [Exit.inBlock, Exit.then, Exit.noGoto])
                refine bodyPost_ret (v := .tuple #[.agg #[.int .i64 0, .int .i64 0, .int .i64 0, .int .i64 0, .slice none 0 0, .slice none 0 0], .int .i64 8]) ?_ rfl (HF.out _ _ HN.out ?_)
                · rw [results_cell_tmp rfl]
                  go_simp
                · first | with_reducible exact HB3.out | with_reducible exact below_set6 HB3.out (Nat.le_refl _)
              have HN : Hid (rollS l id 1 = (⟨id, 1, fr0, tz0, [], la⟩, 0)) := Lib.hid (by rw [HRE.out]; unfold rollEnd; rw [if_neg (fun h => h c5), if_neg (by show ¬ 64 < la.length; omega)])
              clear c5 HRE HRE2
              go_wp2
              (try simp only [Exit.inBlock, Exit.then, Exit.noGoto])
              refine bodyPost_ret (v := .tuple #[.agg #[.int .i64 id, .int .i64 1, .int .i64 fr0, .int .i64 tz0, .slice none 0 0, .slice A la.length cap], .int .i64 0]) ?_ rfl ?_
              · rw [results_cell_tmp rfl]
                go_simp
              · rw [HN.out]
                refine ⟨A, la.length, cap, rfl, ?_, ?_⟩
                · exact HR3.out.six6 HSX2.out
                · exact below_set6 HB3.out (Nat.le_refl _)
            case neg =>
              have e1 : (k == 1) = false := by simpa using k1
              obtain ⟨A8, c8, rfl, hrow⟩ := rowOf_own HFIN.out HOK.out
              have MR := rdown_any k hrow HLN.out.2
              rw [← HRA2.out k1] at MR
              generalize rollAll l k = RA at *
              have HMR := Lib.hid MR
              clear MR hrow HRA1 HRA2
              go_wp2_with fail
              refine HMR.out.mono ?_
              rintro e w2 ⟨A, cap, rfl, hb2, hr2⟩
              obtain ⟨la, cd⟩ := RA
              simp only at hr2 HRE ⊢
              have HRE2 := HRE
              have hlen := Nat.le_trans hr2.2.2.1 hr2.2.2.2.1
              unfold maxLen at hlen
              have HV2 := Lib.hid (HT2.out.1.below hb2)
              have HX2 := Lib.hid (HT2.out.2.below HT2.out.1.lt hb2)
              have hg0 : w.heap.size ≠ g16 := Nat.ne_of_lt HG16.out
              have HRES2 : Hid (SgV (w2.setCell ⟨g16, 5, none⟩ (.slice A la.length cap)) w.heap.size 0 0 0 0 (.slice none 0 0) (.slice none 0 0)) := Lib.hid ((HRES.out.below hb2).of (fun i => cell_other hg0) (fun i => by rw [World.frozen?_setCell]))
              have HSX2 : Hid (Six (w2.setCell ⟨g16, 5, none⟩ (.slice A la.length cap)) w.heap.size) := Lib.hid (fun o ho => (cell_other hg0).trans ((HSX.out.below HRES.out.lt hb2) o ho))
              have HV3 := Lib.hid (HV2.out.set5 (.slice A la.length cap))
              have HR3 : Hid (RowOf (w2.setCell ⟨g16, 5, none⟩ (.slice A la.length cap)) A la.length cap la) := Lib.hid (hr2.six HX2.out)
              have HB3 : Hid (Below w.heap.size w (w2.setCell ⟨g16, 5, none⟩ (.slice A la.length cap))) := Lib.hid ((past HBZ.out hb2).setCell (Nat.le_of_lt HG16.out) _)
              obtain ⟨d0, d1, d2, d3, d4, d5, y0, y1, y2, y3, y4, y5⟩ := HV2.out
              clear hb2 hr2 HT2 HRES HSX HRAW HFIN HMR
              go_upto_region 27 with fail
              clear d0 d1 d2 d3 d4 d5 y0 y1 y2 y3 y4 y5
              generalize w2.setCell ⟨g16, 5, none⟩ (.slice A la.length cap) = w3 at *
              obtain ⟨t0, t1, t2, t3, t4, t5, _, _, _, _, _, _⟩ := HV3.out
              obtain ⟨d0, d1, d2, d3, d4, d5, y0, y1, y2, y3, y4, y5⟩ := HRES2.out
              by_cases c5 : cd = 0
              case neg =>
                have c5' : (cd != 0) = true := by simp [c5]
                have HN : Hid (rollS l id k = (Sg.zero, cd)) := Lib.hid (by rw [HRE.out]; unfold rollEnd; rw [if_pos c5])
                clear c5 HRE HRE2
                go_wp2
                (try simp only [Exit.inBlock, Exit.then, Exit.noGoto])
                refine bodyPost_ret (v := .tuple #[.agg #[.int .i64 0, .int .i64 0, .int .i64 0, .int .i64 0, .slice none 0 0, .slice none 0 0], .int .i64 cd]) ?_ rfl (HF.out _ _ HN.out ?_)
                · rw [results_cell_tmp rfl]
                  go_simp
                · first | with_reducible exact HB3.out | with_reducible exact below_set6 HB3.out (Nat.le_refl _)
              have c5' : (cd != 0) = false := by simp [c5]
              by_cases c6 : (la.length : Int) > 64
              case pos =>
                have HN : Hid (rollS l id k = (Sg.zero, 8)) := Lib.hid (by rw [HRE.out]; unfold rollEnd; rw [if_neg (fun h => h c5), if_pos (by show 64 < la.length; omega)])
                clear c5 HRE HRE2
                go_wp2
                (try simp only [Exit.inBlock, Exit.then, Exit.noGoto])
                refine bodyPost_ret (v := .tuple #[.agg #[.int .i64 0, .int .i64 0, .int .i64 0, .int .i64 0, .slice none 0 0, .slice none 0 0], .int .i64 8]) ?_ rfl (HF.out _ _ HN.out ?_)
                · rw [results_cell_tmp rfl]
                  go_simp
                · first | with_reducible exact HB3.out | with_reducible exact below_set6 HB3.out (Nat.le_refl _)
              have HN : Hid (rollS l id k = (⟨id, k, fr0, tz0, [], la⟩, 0)) := Lib.hid (by rw [HRE.out]; unfold rollEnd; rw [if_neg (fun h => h c5), if_neg (by show ¬ 64 < la.length; omega)])
              clear c5 HRE HRE2
              go_wp2
              (try simp only [Exit.inBlock, Exit.then, Exit.noGoto])
              refine bodyPost_ret (v := .tuple #[.agg #[.int .i64 id, .int .i64 k, .int .i64 fr0, .int .i64 tz0, .slice none 0 0, .slice A la.length cap], .int .i64 0]) ?_ rfl ?_
              · rw [results_cell_tmp rfl]
                go_simp
              · rw [HN.out]
                refine ⟨A, la.length, cap, rfl, ?_, ?_⟩
                · exact HR3.out.six6 HSX2.out
                · exact below_set6 HB3.out (Nat.le_refl _)
end Go.Proofs.YtepancmkopifpaaGreatDoor
