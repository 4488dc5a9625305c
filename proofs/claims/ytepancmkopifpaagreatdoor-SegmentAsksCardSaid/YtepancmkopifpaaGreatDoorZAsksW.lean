/-
  The walk of SegmentAsks: it returns true, and writes nothing that was there.
-/
import Derived.Test.YtepancmkopifpaaGreatDoorZAsksM
import Derived.Test.YtepancmkopifpaaGreatDoorZRoll
import Derived.Test.YtepancmkopifpaaGreatDoorZNameG
import Derived.Test.YtepancmkopifpaaGreatDoorWTold
set_option maxRecDepth 100000
namespace Go.Proofs.YtepancmkopifpaaGreatDoor
open Go.RowKit
attribute [local go_sem ↓] Go.wp_at_zero Go.wp_at_succ
set_option linter.unusedVariables false

theorem segs_two (u : World) {s t : Sg} {A : Option Addr} {n ca : Nat} {B : Option Addr} {m cb : Nat} {A2 : Option Addr} {n2 ca2 : Nat} {B2 : Option Addr} {m2 cb2 : Nat} (hs : SegAt u s A n ca B m cb) (ht : SegAt u t A2 n2 ca2 B2 m2 cb2) :
    Segs (u.alloc (.cells #[.int .i64 s.id, .int .i64 s.tier, .int .i64 s.fr, .int .i64 s.tz, .slice A n ca, .slice B m cb, .int .i64 t.id, .int .i64 t.tier, .int .i64 t.fr, .int .i64 t.tz, .slice A2 n2 ca2, .slice B2 m2 cb2] 25)) u.heap.size 0 [s, t] := fun j hj => by
  match j, hj with
  | 0, _ => exact ⟨A, n, ca, B, m, cb, by simp [sgAt], by simp [sgAt], by simp [sgAt], by simp [sgAt], by simp, by simp, hs.below (below_box _ _)⟩
  | 1, _ => exact ⟨A2, n2, ca2, B2, m2, cb2, by simp [sgAt], by simp [sgAt], by simp [sgAt], by simp [sgAt], by simp, by simp, ht.below (below_box _ _)⟩
theorem eq38 (a b c d e : Int) (w : World) : (binOp .eql 38 (.agg #[.int .i64 a, .int .i64 b, .int .i64 c, .int .i64 d, .int .u32 e]) (.agg #[.int .i64 a, .int .i64 b, .int .i64 c, .int .i64 d, .int .u32 e])).run Tryz.prog w = .ok (.bool true) w := by
  go_simp
/-- What is carried along: the two segments, their boxes, the bytes, the tables. -/
structure ZB (w u : World) (s : Sg) (A : Option Addr) (n ca : Nat) (B : Option Addr) (m cb : Nat) (t : Sg) (A2 : Option Addr) (n2 ca2 : Nat) (B2 : Option Addr) (m2 cb2 : Nat) (D : Option Addr) (k cd : Nat) (bs : List Nat) (g5 g6 : Nat) : Prop where
  s5 : SegAt u s A n ca B m cb
  s6 : SegAt u t A2 n2 ca2 B2 m2 cb2
  v5 : SgV u g5 s.id s.tier s.fr s.tz (.slice A n ca) (.slice B m cb)
  v6 : SgV u g6 t.id t.tier t.fr t.tz (.slice A2 n2 ca2) (.slice B2 m2 cb2)
  brow : BRow u D k cd bs
  wid : Wid u
  pow : Pow u
  below : Below w.heap.size w u
theorem ZB.on {w u u' : World} {s : Sg} {A : Option Addr} {n ca : Nat} {B : Option Addr} {m cb : Nat} {t : Sg} {A2 : Option Addr} {n2 ca2 : Nat} {B2 : Option Addr} {m2 cb2 : Nat} {D : Option Addr} {k cd : Nat} {bs : List Nat} {g5 g6 : Nat} (h : ZB w u s A n ca B m cb t A2 n2 ca2 B2 m2 cb2 D k cd bs g5 g6) (hb : Below u.heap.size u u') : ZB w u' s A n ca B m cb t A2 n2 ca2 B2 m2 cb2 D k cd bs g5 g6 :=
  ⟨h.s5.below hb, h.s6.below hb, h.v5.below hb, h.v6.below hb, h.brow.below hb, h.wid.below hb, h.pow.below hb, past h.below hb⟩
set_option maxHeartbeats 16000000 in
theorem walk_segasks {i k f z : Int} {sm : List (Int × Int)} {ag : List Ag} {A : Option Addr} {n ca : Nat} {B : Option Addr} {m cb : Nat} {i2 k2 f2 z2 : Int} {sm2 : List (Int × Int)} {ag2 : List Ag} {A2 : Option Addr} {n2 ca2 : Nat} {B2 : Option Addr} {m2 cb2 : Nat} {D : Option Addr} {kb cd : Nat} {bs : List Nat} {id kk : Int} {w : World}
    (h1 : SegAt w ⟨i, k, f, z, sm, ag⟩ A n ca B m cb) (h2 : SegAt w ⟨i2, k2, f2, z2, sm2, ag2⟩ A2 n2 ca2 B2 m2 cb2) (h3 : BRow w D kb cd bs) (hid : In64 id) (hkk : In64 kk) (hw : Wid w) (hp : Pow w) :
    Calls Tryz.prog 3 #[.agg #[.int .i64 i, .int .i64 k, .int .i64 f, .int .i64 z, .slice A n ca, .slice B m cb], .agg #[.int .i64 i2, .int .i64 k2, .int .i64 f2, .int .i64 z2, .slice A2 n2 ca2, .slice B2 m2 cb2], .slice D kb cd, .int .i64 id, .int .i64 kk] w fun e w' => e = .returned (.bool true) ∧ Below w.heap.size w w' := by
  obtain ⟨W1, hW1⟩ : ∃ W1, W1 = (w.alloc (.cells #[.int .i64 i, .int .i64 k, .int .i64 f, .int .i64 z, .slice A n ca, .slice B m cb] 25)).alloc (.cells #[.int .i64 i2, .int .i64 k2, .int .i64 f2, .int .i64 z2, .slice A2 n2 ca2, .slice B2 m2 cb2] 25) := ⟨_, rfl⟩
  have hb1 : Below w.heap.size w W1 := by rw [hW1]; exact past (below_box _ _) (below_box _ _)
  have HZ1 : Hid (ZB w W1 ⟨i, k, f, z, sm, ag⟩ A n ca B m cb ⟨i2, k2, f2, z2, sm2, ag2⟩ A2 n2 ca2 B2 m2 cb2 D kb cd bs w.heap.size (w.heap.size + 1)) := Lib.hid ⟨h1.below hb1, h2.below hb1, by rw [hW1]; exact (SgV.new w i k f z _ _ 25).below (below_box _ _), by
    have h := SgV.new (w.alloc (.cells #[.int .i64 i, .int .i64 k, .int .i64 f, .int .i64 z, .slice A n ca, .slice B m cb] 25)) i2 k2 f2 z2 (.slice A2 n2 ca2) (.slice B2 m2 cb2) 25
    rw [World.size_alloc] at h
    rw [hW1]
    exact h, h3.below hb1, hw.below hb1, hp.below hb1, hb1⟩
  have HW1 := Lib.hid hW1
  have HIN := Lib.hid (And.intro hid hkk)
  clear hW1 hb1 h1 h2 h3 hw hp hid hkk
  obtain ⟨g6, hg6⟩ : ∃ g, g = w.heap.size + 1 := ⟨_, rfl⟩
  rw [← hg6] at HZ1
  have HG6 := Lib.hid hg6
  clear hg6
  go_enter Tryz.func3, Tryz.ntmps3
  go_upto_region 1 with fail
  rw [← HW1.out, ← HG6.out]
  clear HW1 HG6
  obtain ⟨d0, d1, d2, d3, d4, d5, _, _, _, _, _, _⟩ := HZ1.out.v5
  simp only at d0 d1 d2 d3
  go_wp2_with fail
  refine few_any.mono ?_
  rintro en W2 ⟨rfl, hb2⟩
  have HZ2 := Lib.hid (HZ1.out.on hb2)
  clear d0 d1 d2 d3 d4 d5 hb2 HZ1
  by_cases hf1 : n ≤ 70 ∧ m ≤ 70
  case neg =>
    rw [decide_eq_false hf1]
    go_wp2_with fail
    refine (told_any W2 HZ2.out.wid).mono ?_
    rintro en wt ⟨rfl, hb⟩
    have HBF := Lib.hid (past HZ2.out.below hb)
    clear hb
    go_wp2
    (try rw [Exit.noGoto_ret])
    go_ret
    exact ⟨rfl, HBF.out⟩
  rw [decide_eq_true hf1]
  obtain ⟨d0, d1, d2, d3, d4, d5, _, _, _, _, _, _⟩ := HZ2.out.v6
  simp only at d0 d1 d2 d3
  go_wp2_with fail
  refine few_any.mono ?_
  rintro en W3 ⟨rfl, hb3⟩
  have HZ3 := Lib.hid (HZ2.out.on hb3)
  clear d0 d1 d2 d3 d4 d5 hb3 HZ2
  by_cases hf2 : n2 ≤ 70 ∧ m2 ≤ 70
  case neg =>
    rw [decide_eq_false hf2]
    go_wp2_with fail
    refine (told_any W3 HZ3.out.wid).mono ?_
    rintro en wt ⟨rfl, hb⟩
    have HBF := Lib.hid (past HZ3.out.below hb)
    clear hb
    go_wp2
    (try rw [Exit.noGoto_ret])
    go_ret
    exact ⟨rfl, HBF.out⟩
  rw [decide_eq_true hf2]
  by_cases hm : kb ≤ 400
  case neg =>
    have k1 : (kb : Int) > 400 := by omega
    go_wp2_with fail
    refine (told_any W3 HZ3.out.wid).mono ?_
    rintro en wt ⟨rfl, hb⟩
    have HBF := Lib.hid (past HZ3.out.below hb)
    clear hb
    go_wp2
    (try rw [Exit.noGoto_ret])
    go_ret
    exact ⟨rfl, HBF.out⟩
  have k1 : ¬ (kb : Int) > 400 := by omega
  have HM := Lib.hid hm
  clear hm hf1 hf2
  obtain ⟨d0, d1, d2, d3, d4, d5, _, _, _, _, _, _⟩ := HZ3.out.v5
  simp only at d0 d1 d2 d3
  obtain ⟨⟨P, pc⟩, hP⟩ : ∃ x, refPut ⟨i, k, f, z, sm, ag⟩ = x := ⟨_, rfl⟩
  have M4 := put_pr HZ3.out.s5 HZ3.out.wid
  have N4 := fun (u : World) (hu : Below W3.heap.size W3 u) => putseg_any (HZ3.out.on hu).s5 (HZ3.out.on hu).wid
  rw [hP] at M4
  simp only [hP] at N4
  simp only at M4
  have HPB : Hid (∀ c ∈ P, c < 256) := Lib.hid (by
    have e : P = (refPut ⟨i, k, f, z, sm, ag⟩).1 := by rw [hP]
    rw [e]
    unfold refPut
    split
    · split
      · exact bytes_byte _
      · intro c hc; simp at hc
    · intro c hc; simp at hc)
  have HM4 := Lib.hid M4
  have HN4 := Lib.hid N4
  clear M4 N4 hP
  go_wp2_with fail
  refine HM4.out.mono ?_
  rintro en W4 ⟨V4, c4, rfl, hr4, hb4⟩
  have HZ4 := Lib.hid (HZ3.out.on hb4)
  have HX4 : Hid (Later W4 fun u => BRow u V4 P.length c4 P) := Lib.hid (fun u hu => hr4.below hu)
  have HM5 := Lib.hid (HN4.out W4 hb4)
  clear hr4 hb4 HM4 HN4 HZ3 k1
  clear d0 d1 d2 d3 d4 d5
  obtain ⟨d0, d1, d2, d3, d4, d5, _, _, _, _, _, _⟩ := HZ4.out.v5
  simp only at d0 d1 d2 d3
  go_wp2_with fail
  refine HM5.out.mono ?_
  rintro en W5 ⟨rfl, hb5⟩
  have HZ5 := Lib.hid (HZ4.out.on hb5)
  have HX5 := Lib.hid (HX4.out.on hb5)
  clear hb5 HM5 HZ4 HX4
  clear d0 d1 d2 d3 d4 d5
  obtain ⟨⟨X, xc⟩, hX⟩ : ∃ x, readR2 bs = x := ⟨_, rfl⟩
  have HXR := Lib.hid hX
  have HBB : Hid (∀ c ∈ bs, c < 256) := Lib.hid HZ5.out.brow.bytes.1
  have HBL : Hid (bs.length ≤ 400) := Lib.hid (by have := HM.out; have := HZ5.out.brow.len; omega)
  have M6 := (getG_any HZ5.out.brow HZ5.out.wid).mono (fun e w' h => get_sr h)
  rw [hX] at M6
  unfold SR at M6
  simp only at M6
  have HM6 := Lib.hid M6
  clear M6 hX
  go_wp2_with fail
  refine HM6.out.mono ?_
  rintro en W6 ⟨A6, n6, c6, B6, m6, e6, rfl, hs6, hb6⟩
  have hb_ := past hb6 (below_box W6 (.cells #[.int .i64 X.id, .int .i64 X.tier, .int .i64 X.fr, .int .i64 X.tz, .slice A6 n6 c6, .slice B6 m6 e6] 25))
  have HZ7 := Lib.hid (HZ5.out.on hb_)
  have HX7 := Lib.hid (HX5.out.on hb_)
  have HG7 : Hid (Later (W6.alloc (.cells #[.int .i64 X.id, .int .i64 X.tier, .int .i64 X.fr, .int .i64 X.tz, .slice A6 n6 c6, .slice B6 m6 e6] 25)) fun u => SegAt u X A6 n6 c6 B6 m6 e6 ∧ SgV u W6.heap.size X.id X.tier X.fr X.tz (.slice A6 n6 c6) (.slice B6 m6 e6)) := Lib.hid (fun u hu => ⟨hs6.below (past (below_box W6 _) hu), (SgV.new W6 X.id X.tier X.fr X.tz _ _ 25).below hu⟩)
  clear hb6 hb_ hs6 HM6 HZ5 HX5
  go_upto_region 6 with fail
  generalize W6.alloc (.cells #[.int .i64 X.id, .int .i64 X.tier, .int .i64 X.fr, .int .i64 X.tz, .slice A6 n6 c6, .slice B6 m6 e6] 25) = W7 at *
  generalize W6.heap.size = gx at *
  have cv := conv_bytes HZ7.out.brow.bytes kb cd HZ7.out.brow.len
  have M8 := (getseg_any HBB.out HBL.out HZ7.out.wid).mono (fun e w' h => getr_sr h)
  rw [HXR.out] at M8
  unfold SR at M8
  simp only at M8
  have HM8 := Lib.hid M8
  clear M8
  go_wp2_with fail
  refine HM8.out.mono ?_
  rintro en W8 ⟨A8, n8, c8, B8, m8, e8, rfl, hs8, hb8⟩
  have hb_ := past hb8 (below_box W8 (.cells #[.int .i64 X.id, .int .i64 X.tier, .int .i64 X.fr, .int .i64 X.tz, .slice A8 n8 c8, .slice B8 m8 e8] 25))
  have HZ9 := Lib.hid (HZ7.out.on hb_)
  have HX9 := Lib.hid (HX7.out.on hb_)
  have HG9 := Lib.hid (HG7.out.on hb_)
  have HY9 : Hid (Later (W8.alloc (.cells #[.int .i64 X.id, .int .i64 X.tier, .int .i64 X.fr, .int .i64 X.tz, .slice A8 n8 c8, .slice B8 m8 e8] 25)) fun u => SegAt u X A8 n8 c8 B8 m8 e8 ∧ SgV u W8.heap.size X.id X.tier X.fr X.tz (.slice A8 n8 c8) (.slice B8 m8 e8)) := Lib.hid (fun u hu => ⟨hs8.below (past (below_box W8 _) hu), (SgV.new W8 X.id X.tier X.fr X.tz _ _ 25).below hu⟩)
  clear hb8 hb_ hs8 HM8 HZ7 HX7 HG7 cv
  go_upto_region 7 with fail
  generalize W8.alloc (.cells #[.int .i64 X.id, .int .i64 X.tier, .int .i64 X.fr, .int .i64 X.tz, .slice A8 n8 c8, .slice B8 m8 e8] 25) = W9 at *
  generalize W8.heap.size = gy at *
  obtain ⟨⟨⟨j0, j1, j2, j3, j4⟩, jc⟩, hJ⟩ : ∃ x, infR2 bs = x := ⟨_, rfl⟩
  have M10 := (infoG_any HZ9.out.brow HZ9.out.wid).mono (fun e w' h => info_ir h)
  have N10 := fun (u : World) (hu : Below W9.heap.size W9 u) => (infoof_any HBB.out HBL.out (HZ9.out.on hu).wid).mono (fun e w' h => info_ir h)
  rw [hJ] at M10 N10
  unfold IR at M10 N10
  simp only at M10 N10
  have HM10 := Lib.hid M10
  have HN10 := Lib.hid N10
  clear M10 N10 hJ
  go_wp2_with fail
  refine HM10.out.mono ?_
  rintro en W10 ⟨rfl, hb10⟩
  have hb_ := past hb10 (below_box W10 (.cells #[.int .i64 j0, .int .i64 j1, .int .i64 j2, .int .i64 j3, .int .u32 j4] 38))
  have HZ11 := Lib.hid (HZ9.out.on hb_)
  have HX11 := Lib.hid (HX9.out.on hb_)
  have HG11 := Lib.hid (HG9.out.on hb_)
  have HY11 := Lib.hid (HY9.out.on hb_)
  have HJ11 : Hid (Later (W10.alloc (.cells #[.int .i64 j0, .int .i64 j1, .int .i64 j2, .int .i64 j3, .int .u32 j4] 38)) fun u => IfV u W10.heap.size j0 j1 j2 j3 j4) := Lib.hid (fun u hu => (IfV.new W10 j0 j1 j2 j3 j4 38).below hu)
  have HM12 := Lib.hid (HN10.out _ hb_)
  clear hb10 hb_ HM10 HN10 HZ9 HX9 HG9 HY9
  go_upto_region 8 with fail
  generalize W10.alloc (.cells #[.int .i64 j0, .int .i64 j1, .int .i64 j2, .int .i64 j3, .int .u32 j4] 38) = W11 at *
  generalize W10.heap.size = gi at *
  have cv := conv_bytes HZ11.out.brow.bytes kb cd HZ11.out.brow.len
  go_wp2_with fail
  refine HM12.out.mono ?_
  rintro en W12 ⟨rfl, hb12⟩
  have hb_ := past hb12 (below_box W12 (.cells #[.int .i64 j0, .int .i64 j1, .int .i64 j2, .int .i64 j3, .int .u32 j4] 38))
  have HZ13 := Lib.hid (HZ11.out.on hb_)
  have HX13 := Lib.hid (HX11.out.on hb_)
  have HG13 := Lib.hid (HG11.out.on hb_)
  have HY13 := Lib.hid (HY11.out.on hb_)
  have HJ13 := Lib.hid (HJ11.out.on hb_)
  have HK13 : Hid (Later (W12.alloc (.cells #[.int .i64 j0, .int .i64 j1, .int .i64 j2, .int .i64 j3, .int .u32 j4] 38)) fun u => IfV u W12.heap.size j0 j1 j2 j3 j4) := Lib.hid (fun u hu => (IfV.new W12 j0 j1 j2 j3 j4 38).below hu)
  clear hb12 hb_ HM12 HZ11 HX11 HG11 HY11 HJ11 cv
  go_upto_region 9 with fail
  generalize W12.alloc (.cells #[.int .i64 j0, .int .i64 j1, .int .i64 j2, .int .i64 j3, .int .u32 j4] 38) = W13 at *
  generalize W12.heap.size = gj at *
  obtain ⟨⟨Y, yc⟩, hY⟩ : ∃ x, rollS [⟨i, k, f, z, sm, ag⟩, ⟨i2, k2, f2, z2, sm2, ag2⟩] id kk = x := ⟨_, rfl⟩
  have HOKS : Hid (∀ s ∈ [(⟨i, k, f, z, sm, ag⟩ : Sg), ⟨i2, k2, f2, z2, sm2, ag2⟩], s.ok) := Lib.hid (fun s hs => by
    rcases List.mem_cons.1 hs with rfl | hs
    · exact HZ13.out.s5.ok
    · rw [List.mem_singleton] at hs; rw [hs]; exact HZ13.out.s6.ok)
  have M14 := (rollG_two (segs_two W13 HZ13.out.s5 HZ13.out.s6) (Nat.le_refl 2) (by omega) HIN.out.1 HIN.out.2 (HZ13.out.wid.below (below_box W13 _))).mono (fun e w' h => roll_sr HIN.out.1 HIN.out.2 HOKS.out h)
  have N14 := fun (u : World) (hu : Below W13.heap.size W13 u) => (rroll_two (segs_two u (HZ13.out.on hu).s5 (HZ13.out.on hu).s6) rfl (Nat.le_refl 2) (by omega) HIN.out.1 HIN.out.2 ((HZ13.out.on hu).wid.below (below_box u _))).mono (fun e w' h => roll_sr HIN.out.1 HIN.out.2 HOKS.out h)
  rw [hY] at M14 N14
  unfold SR at M14 N14
  simp only at M14 N14
  have HM14 := Lib.hid M14
  have HN14 := Lib.hid N14
  clear M14 N14 hY
  obtain ⟨d0, d1, d2, d3, d4, d5, _, _, _, _, _, _⟩ := HZ13.out.v5
  simp only at d0 d1 d2 d3
  obtain ⟨q0, q1, q2, q3, q4, q5, _, _, _, _, _, _⟩ := HZ13.out.v6
  simp only at q0 q1 q2 q3
  go_wp2_with fail
  refine HM14.out.mono ?_
  rintro en W14 ⟨A9, n9, c9, B9, m9, e9, rfl, hs9, hb9⟩
  have hb_ := past (past (below_box W13 _) hb9) (below_box W14 (.cells #[.int .i64 Y.id, .int .i64 Y.tier, .int .i64 Y.fr, .int .i64 Y.tz, .slice A9 n9 c9, .slice B9 m9 e9] 25))
  have HZ15 := Lib.hid (HZ13.out.on hb_)
  have HX15 := Lib.hid (HX13.out.on hb_)
  have HG15 := Lib.hid (HG13.out.on hb_)
  have HY15 := Lib.hid (HY13.out.on hb_)
  have HJ15 := Lib.hid (HJ13.out.on hb_)
  have HK15 := Lib.hid (HK13.out.on hb_)
  have HR15 : Hid (Later (W14.alloc (.cells #[.int .i64 Y.id, .int .i64 Y.tier, .int .i64 Y.fr, .int .i64 Y.tz, .slice A9 n9 c9, .slice B9 m9 e9] 25)) fun u => SegAt u Y A9 n9 c9 B9 m9 e9 ∧ SgV u W14.heap.size Y.id Y.tier Y.fr Y.tz (.slice A9 n9 c9) (.slice B9 m9 e9)) := Lib.hid (fun u hu => ⟨hs9.below (past (below_box W14 _) hu), (SgV.new W14 Y.id Y.tier Y.fr Y.tz _ _ 25).below hu⟩)
  have HM16 := Lib.hid (HN14.out _ hb_)
  clear hb9 hb_ hs9 HM14 HN14 HZ13 HX13 HG13 HY13 HJ13 HK13 d0 d1 d2 d3 d4 d5 q0 q1 q2 q3 q4 q5
  go_upto_region 10 with fail
  generalize W14.alloc (.cells #[.int .i64 Y.id, .int .i64 Y.tier, .int .i64 Y.fr, .int .i64 Y.tz, .slice A9 n9 c9, .slice B9 m9 e9] 25) = W15 at *
  generalize W14.heap.size = gr at *
  obtain ⟨d0, d1, d2, d3, d4, d5, _, _, _, _, _, _⟩ := HZ15.out.v5
  simp only at d0 d1 d2 d3
  obtain ⟨q0, q1, q2, q3, q4, q5, _, _, _, _, _, _⟩ := HZ15.out.v6
  simp only at q0 q1 q2 q3
  go_wp2_with fail
  refine HM16.out.mono ?_
  rintro en W16 ⟨A7, n7, c7, B7, m7, e7, rfl, hs7, hb7⟩
  have hb_ := past (past (below_box W15 _) hb7) (below_box W16 (.cells #[.int .i64 Y.id, .int .i64 Y.tier, .int .i64 Y.fr, .int .i64 Y.tz, .slice A7 n7 c7, .slice B7 m7 e7] 25))
  have HZ17 := Lib.hid (HZ15.out.on hb_)
  have HX17 := Lib.hid (HX15.out.on hb_)
  have HG17 := Lib.hid (HG15.out.on hb_)
  have HY17 := Lib.hid (HY15.out.on hb_)
  have HJ17 := Lib.hid (HJ15.out.on hb_)
  have HK17 := Lib.hid (HK15.out.on hb_)
  have HR17 := Lib.hid (HR15.out.on hb_)
  have HQ17 : Hid (Later (W16.alloc (.cells #[.int .i64 Y.id, .int .i64 Y.tier, .int .i64 Y.fr, .int .i64 Y.tz, .slice A7 n7 c7, .slice B7 m7 e7] 25)) fun u => SegAt u Y A7 n7 c7 B7 m7 e7 ∧ SgV u W16.heap.size Y.id Y.tier Y.fr Y.tz (.slice A7 n7 c7) (.slice B7 m7 e7)) := Lib.hid (fun u hu => ⟨hs7.below (past (below_box W16 _) hu), (SgV.new W16 Y.id Y.tier Y.fr Y.tz _ _ 25).below hu⟩)
  clear hb7 hb_ hs7 HM16 HZ15 HX15 HG15 HY15 HJ15 HK15 HR15 d0 d1 d2 d3 d4 d5 q0 q1 q2 q3 q4 q5
  go_upto_region 11 with fail
  generalize W16.alloc (.cells #[.int .i64 Y.id, .int .i64 Y.tier, .int .i64 Y.fr, .int .i64 Y.tz, .slice A7 n7 c7, .slice B7 m7 e7] 25) = W17 at *
  generalize W16.heap.size = gq at *
  have cv : ∀ u : SubB W17, (convert 26 9 (.slice V4 P.length c4)).run Tryz.prog u.w = .ok (.string (strB P)) u.w := fun u => conv_bytes (HX17.out u.w u.le).bytes P.length c4 rfl
  have S_0 : ∀ u : SubB W17, u.w.cell? ⟨w.heap.size, 0, none⟩ = some (.int .i64 i) := fun u => (HZ17.out.on u.le).v5.c0
  have S_1 : ∀ u : SubB W17, u.w.cell? ⟨w.heap.size, 1, none⟩ = some (.int .i64 k) := fun u => (HZ17.out.on u.le).v5.c1
  have S_2 : ∀ u : SubB W17, u.w.cell? ⟨w.heap.size, 2, none⟩ = some (.int .i64 f) := fun u => (HZ17.out.on u.le).v5.c2
  have S_3 : ∀ u : SubB W17, u.w.cell? ⟨w.heap.size, 3, none⟩ = some (.int .i64 z) := fun u => (HZ17.out.on u.le).v5.c3
  have S_4 : ∀ u : SubB W17, u.w.cell? ⟨w.heap.size, 4, none⟩ = some (.slice A n ca) := fun u => (HZ17.out.on u.le).v5.c4
  have S_5 : ∀ u : SubB W17, u.w.cell? ⟨w.heap.size, 5, none⟩ = some (.slice B m cb) := fun u => (HZ17.out.on u.le).v5.c5
  have T_0 : ∀ u : SubB W17, u.w.cell? ⟨g6, 0, none⟩ = some (.int .i64 i2) := fun u => (HZ17.out.on u.le).v6.c0
  have T_1 : ∀ u : SubB W17, u.w.cell? ⟨g6, 1, none⟩ = some (.int .i64 k2) := fun u => (HZ17.out.on u.le).v6.c1
  have T_2 : ∀ u : SubB W17, u.w.cell? ⟨g6, 2, none⟩ = some (.int .i64 f2) := fun u => (HZ17.out.on u.le).v6.c2
  have T_3 : ∀ u : SubB W17, u.w.cell? ⟨g6, 3, none⟩ = some (.int .i64 z2) := fun u => (HZ17.out.on u.le).v6.c3
  have T_4 : ∀ u : SubB W17, u.w.cell? ⟨g6, 4, none⟩ = some (.slice A2 n2 ca2) := fun u => (HZ17.out.on u.le).v6.c4
  have T_5 : ∀ u : SubB W17, u.w.cell? ⟨g6, 5, none⟩ = some (.slice B2 m2 cb2) := fun u => (HZ17.out.on u.le).v6.c5
  have X_0 : ∀ u : SubB W17, u.w.cell? ⟨gx, 0, none⟩ = some (.int .i64 X.id) := fun u => (HG17.out u.w u.le).2.c0
  have X_1 : ∀ u : SubB W17, u.w.cell? ⟨gx, 1, none⟩ = some (.int .i64 X.tier) := fun u => (HG17.out u.w u.le).2.c1
  have X_2 : ∀ u : SubB W17, u.w.cell? ⟨gx, 2, none⟩ = some (.int .i64 X.fr) := fun u => (HG17.out u.w u.le).2.c2
  have X_3 : ∀ u : SubB W17, u.w.cell? ⟨gx, 3, none⟩ = some (.int .i64 X.tz) := fun u => (HG17.out u.w u.le).2.c3
  have X_4 : ∀ u : SubB W17, u.w.cell? ⟨gx, 4, none⟩ = some (.slice A6 n6 c6) := fun u => (HG17.out u.w u.le).2.c4
  have X_5 : ∀ u : SubB W17, u.w.cell? ⟨gx, 5, none⟩ = some (.slice B6 m6 e6) := fun u => (HG17.out u.w u.le).2.c5
  have Y_0 : ∀ u : SubB W17, u.w.cell? ⟨gy, 0, none⟩ = some (.int .i64 X.id) := fun u => (HY17.out u.w u.le).2.c0
  have Y_1 : ∀ u : SubB W17, u.w.cell? ⟨gy, 1, none⟩ = some (.int .i64 X.tier) := fun u => (HY17.out u.w u.le).2.c1
  have Y_2 : ∀ u : SubB W17, u.w.cell? ⟨gy, 2, none⟩ = some (.int .i64 X.fr) := fun u => (HY17.out u.w u.le).2.c2
  have Y_3 : ∀ u : SubB W17, u.w.cell? ⟨gy, 3, none⟩ = some (.int .i64 X.tz) := fun u => (HY17.out u.w u.le).2.c3
  have Y_4 : ∀ u : SubB W17, u.w.cell? ⟨gy, 4, none⟩ = some (.slice A8 n8 c8) := fun u => (HY17.out u.w u.le).2.c4
  have Y_5 : ∀ u : SubB W17, u.w.cell? ⟨gy, 5, none⟩ = some (.slice B8 m8 e8) := fun u => (HY17.out u.w u.le).2.c5
  have R_0 : ∀ u : SubB W17, u.w.cell? ⟨gr, 0, none⟩ = some (.int .i64 Y.id) := fun u => (HR17.out u.w u.le).2.c0
  have R_1 : ∀ u : SubB W17, u.w.cell? ⟨gr, 1, none⟩ = some (.int .i64 Y.tier) := fun u => (HR17.out u.w u.le).2.c1
  have R_2 : ∀ u : SubB W17, u.w.cell? ⟨gr, 2, none⟩ = some (.int .i64 Y.fr) := fun u => (HR17.out u.w u.le).2.c2
  have R_3 : ∀ u : SubB W17, u.w.cell? ⟨gr, 3, none⟩ = some (.int .i64 Y.tz) := fun u => (HR17.out u.w u.le).2.c3
  have R_4 : ∀ u : SubB W17, u.w.cell? ⟨gr, 4, none⟩ = some (.slice A9 n9 c9) := fun u => (HR17.out u.w u.le).2.c4
  have R_5 : ∀ u : SubB W17, u.w.cell? ⟨gr, 5, none⟩ = some (.slice B9 m9 e9) := fun u => (HR17.out u.w u.le).2.c5
  have Q_0 : ∀ u : SubB W17, u.w.cell? ⟨gq, 0, none⟩ = some (.int .i64 Y.id) := fun u => (HQ17.out u.w u.le).2.c0
  have Q_1 : ∀ u : SubB W17, u.w.cell? ⟨gq, 1, none⟩ = some (.int .i64 Y.tier) := fun u => (HQ17.out u.w u.le).2.c1
  have Q_2 : ∀ u : SubB W17, u.w.cell? ⟨gq, 2, none⟩ = some (.int .i64 Y.fr) := fun u => (HQ17.out u.w u.le).2.c2
  have Q_3 : ∀ u : SubB W17, u.w.cell? ⟨gq, 3, none⟩ = some (.int .i64 Y.tz) := fun u => (HQ17.out u.w u.le).2.c3
  have Q_4 : ∀ u : SubB W17, u.w.cell? ⟨gq, 4, none⟩ = some (.slice A7 n7 c7) := fun u => (HQ17.out u.w u.le).2.c4
  have Q_5 : ∀ u : SubB W17, u.w.cell? ⟨gq, 5, none⟩ = some (.slice B7 m7 e7) := fun u => (HQ17.out u.w u.le).2.c5
  have J_0 : ∀ u : SubB W17, u.w.cell? ⟨gi, 0, none⟩ = some (.int .i64 j0) := fun u => (HJ17.out u.w u.le).c0
  have J_1 : ∀ u : SubB W17, u.w.cell? ⟨gi, 1, none⟩ = some (.int .i64 j1) := fun u => (HJ17.out u.w u.le).c1
  have J_2 : ∀ u : SubB W17, u.w.cell? ⟨gi, 2, none⟩ = some (.int .i64 j2) := fun u => (HJ17.out u.w u.le).c2
  have J_3 : ∀ u : SubB W17, u.w.cell? ⟨gi, 3, none⟩ = some (.int .i64 j3) := fun u => (HJ17.out u.w u.le).c3
  have J_4 : ∀ u : SubB W17, u.w.cell? ⟨gi, 4, none⟩ = some (.int .u32 j4) := fun u => (HJ17.out u.w u.le).c4
  have K_0 : ∀ u : SubB W17, u.w.cell? ⟨gj, 0, none⟩ = some (.int .i64 j0) := fun u => (HK17.out u.w u.le).c0
  have K_1 : ∀ u : SubB W17, u.w.cell? ⟨gj, 1, none⟩ = some (.int .i64 j1) := fun u => (HK17.out u.w u.le).c1
  have K_2 : ∀ u : SubB W17, u.w.cell? ⟨gj, 2, none⟩ = some (.int .i64 j2) := fun u => (HK17.out u.w u.le).c2
  have K_3 : ∀ u : SubB W17, u.w.cell? ⟨gj, 3, none⟩ = some (.int .i64 j3) := fun u => (HK17.out u.w u.le).c3
  have K_4 : ∀ u : SubB W17, u.w.cell? ⟨gj, 4, none⟩ = some (.int .u32 j4) := fun u => (HK17.out u.w u.le).c4
  have hq38 := eq38 j0 j1 j2 j3 j4
  obtain ⟨BM, hBM⟩ : ∃ b, decide (Sg.may ⟨i, k, f, z, sm, ag⟩) = b := ⟨_, rfl⟩
  obtain ⟨BE, hBE⟩ : ∃ b : Bool, (b = true ↔ (⟨i, k, f, z, sm, ag⟩ : Sg) = ⟨i2, k2, f2, z2, sm2, ag2⟩) := by
    by_cases e : (⟨i, k, f, z, sm, ag⟩ : Sg) = ⟨i2, k2, f2, z2, sm2, ag2⟩
    · exact ⟨true, by simp [e]⟩
    · exact ⟨false, by simp [e]⟩
  obtain ⟨NM, hNM⟩ : ∃ s, nameS id = s := ⟨_, rfl⟩
  have N0 : Hid (∀ u : SubB W17, Calls Tryz.prog 5 #[] u.w fun e w' => e = .returned (.bool true) ∧ Below u.w.heap.size u.w w') := Lib.hid (fun u => told_any u.w (HZ17.out.on u.le).wid)
  have N1 : Hid (∀ u : SubB W17, Calls Tryz.prog 14 #[.agg #[.int .i64 i, .int .i64 k, .int .i64 f, .int .i64 z, .slice A n ca, .slice B m cb]] u.w fun e w' => e = .returned (.bool BM) ∧ Below u.w.heap.size u.w w') := Lib.hid (fun u => by have h := mayG_any (HZ17.out.on u.le).s5 (HZ17.out.on u.le).wid; rw [hBM] at h; exact h)
  have N2 : Hid (∀ u : SubB W17, Calls Tryz.prog 15 #[.agg #[.int .i64 i, .int .i64 k, .int .i64 f, .int .i64 z, .slice A n ca, .slice B m cb]] u.w fun e w' => e = .returned (.bool BM) ∧ Below u.w.heap.size u.w w') := Lib.hid (fun u => by have h := mayseg_any (HZ17.out.on u.le).s5 (HZ17.out.on u.le).wid; rw [hBM] at h; exact h)
  have N3 : Hid (∀ u : SubB W17, Calls Tryz.prog 16 #[.agg #[.int .i64 X.id, .int .i64 X.tier, .int .i64 X.fr, .int .i64 X.tz, .slice A6 n6 c6, .slice B6 m6 e6], .agg #[.int .i64 X.id, .int .i64 X.tier, .int .i64 X.fr, .int .i64 X.tz, .slice A8 n8 c8, .slice B8 m8 e8]] u.w fun e w' => e = .returned (.bool true) ∧ Below u.w.heap.size u.w w') := Lib.hid (fun u => calls_bool (Q := (X : Sg) = X) (by simp) (sameSeg_any (HG17.out u.w u.le).1 (HY17.out u.w u.le).1))
  have N4 : Hid (∀ u : SubB W17, Calls Tryz.prog 16 #[.agg #[.int .i64 Y.id, .int .i64 Y.tier, .int .i64 Y.fr, .int .i64 Y.tz, .slice A9 n9 c9, .slice B9 m9 e9], .agg #[.int .i64 Y.id, .int .i64 Y.tier, .int .i64 Y.fr, .int .i64 Y.tz, .slice A7 n7 c7, .slice B7 m7 e7]] u.w fun e w' => e = .returned (.bool true) ∧ Below u.w.heap.size u.w w') := Lib.hid (fun u => calls_bool (Q := (Y : Sg) = Y) (by simp) (sameSeg_any (HR17.out u.w u.le).1 (HQ17.out u.w u.le).1))
  have N5 : Hid (∀ u : SubB W17, Calls Tryz.prog 17 #[.int .i64 id] u.w fun e w' => e = .returned (.string NM) ∧ Below u.w.heap.size u.w w') := Lib.hid (fun u => by have h := name_any HIN.out.1 (HZ17.out.on u.le).pow; rw [hNM] at h; exact h)
  have N6 : Hid (∀ u : SubB W17, Calls Tryz.prog 18 #[.int .i64 id] u.w fun e w' => e = .returned (.string NM) ∧ Below u.w.heap.size u.w w') := Lib.hid (fun u => by have h := refname_any HIN.out.1 u.w; rw [hNM] at h; exact h.mono (fun e w' ⟨h1, h2⟩ => ⟨h1, by rw [← h2]; exact Below.refl _ _⟩))
  have N7 : Hid (∀ u : SubB W17, Calls Tryz.prog 19 #[.agg #[.int .i64 i, .int .i64 k, .int .i64 f, .int .i64 z, .slice A n ca, .slice B m cb], .agg #[.int .i64 i2, .int .i64 k2, .int .i64 f2, .int .i64 z2, .slice A2 n2 ca2, .slice B2 m2 cb2]] u.w fun e w' => e = .returned (.bool BE) ∧ Below u.w.heap.size u.w w') := Lib.hid (fun u => calls_bool hBE (sameG_any (HZ17.out.on u.le).s5 (HZ17.out.on u.le).s6))
  have N8 : Hid (∀ u : SubB W17, Calls Tryz.prog 16 #[.agg #[.int .i64 i, .int .i64 k, .int .i64 f, .int .i64 z, .slice A n ca, .slice B m cb], .agg #[.int .i64 i2, .int .i64 k2, .int .i64 f2, .int .i64 z2, .slice A2 n2 ca2, .slice B2 m2 cb2]] u.w fun e w' => e = .returned (.bool BE) ∧ Below u.w.heap.size u.w w') := Lib.hid (fun u => calls_bool hBE (sameSeg_any (HZ17.out.on u.le).s5 (HZ17.out.on u.le).s6))
  have HEND : Hid (Later W17 fun u => Below w.heap.size w u) := Lib.hid (fun u hu => (HZ17.out.on hu).below)
  have hsz := strB_size P
  clear HZ17 HX17 HG17 HY17 HJ17 HK17 HR17 HQ17 hBM hBE hNM hsz
  generalize strB P = SP at *
  refine wp_region_calm (by kernel_rfl) (by kernel_rfl) ?_
  (try simp only [List.append])
  repeat (go_big_quiet_step ((first | (go_at_call 5; exact calm_call (N0.out _)) | (go_at_call 14; with_reducible exact calm_call (N1.out _)) | (go_at_call 15; with_reducible exact calm_call (N2.out _)) | (go_at_call 16; with_reducible exact calm_call (N3.out _)) | (go_at_call 16; with_reducible exact calm_call (N4.out _)) | (go_at_call 16; with_reducible exact calm_call (N8.out _)) | (go_at_call 17; with_reducible exact calm_call (N5.out _)) | (go_at_call 18; with_reducible exact calm_call (N6.out _)) | (go_at_call 19; with_reducible exact calm_call (N7.out _)))))
  refine wpQuiet_nil ?_
  rintro _ ⟨u, rfl⟩
  clear S_0 S_1 S_2 S_3 S_4 S_5 T_0 T_1 T_2 T_3 T_4 T_5 X_0 X_1 X_2 X_3 X_4 X_5 Y_0 Y_1 Y_2 Y_3 Y_4 Y_5 R_0 R_1 R_2 R_3 R_4 R_5 Q_0 Q_1 Q_2 Q_3 Q_4 Q_5 J_0 J_1 J_2 J_3 J_4 K_0 K_1 K_2 K_3 K_4
  go_wp2
  (try rw [Exit.noGoto_ret])
  go_ret
  exact ⟨rfl, HEND.out u.w u.le⟩
end Go.Proofs.YtepancmkopifpaaGreatDoor
