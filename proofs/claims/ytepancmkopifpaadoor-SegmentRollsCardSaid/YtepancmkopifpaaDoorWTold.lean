/-
  told: it returns true; nothing that was there is written.
-/
import Derived.Test.YtepancmkopifpaaDoorSTold
set_option maxRecDepth 100000
namespace Go.Proofs.YtepancmkopifpaaDoor
open Go.RowKit
attribute [local go_sem ↓] Go.wp_at_zero Go.wp_at_succ
set_option linter.unusedVariables false

/-- So from a world on. -/
def Later (w : World) (P : World → Prop) : Prop := ∀ u, Below w.heap.size w u → P u
theorem Later.on {w w' : World} {P : World → Prop} (h : Later w P) (hb : Below w.heap.size w w') : Later w' P := fun u hu => h u (past hb hu)
theorem Later.now {w : World} {P : World → Prop} (h : Later w P) : P w := h w (Below.refl _ _)
theorem lit_row (w : World) : Row (w.alloc (.cells #[.int .i64 3, .int .i64 5] 28)) (some ⟨w.heap.size, 0, none⟩) 1 [(3, 5)] := by
  have h := World.ownsRow_lit (size := 2) (e := 28) w #[.int .i64 3, .int .i64 5] 1 (Nat.le_refl w.heap.size) (by unfold maxLen; omega) rfl
  obtain ⟨A, cap, e, hr, _, _⟩ := row_of_own (l := [(3, 5)]) h s0_ok.2.2.2.2.1
  injection e with e1 e2 e3
  subst e1 e3
  exact hr
theorem start_seg (w : World) (o : Obj) : SegAt ((w.alloc (.cells #[.int .i64 3, .int .i64 5] 28)).alloc o) s0 (some ⟨w.heap.size, 0, none⟩) 1 1 none 0 0 :=
  ⟨(lit_row w).below (below_box _ _), rfl, rowOf_nil _, s0_ok⟩

set_option maxHeartbeats 1000000 in
theorem told_any (w : World) (hw : Wid w) : Calls Tryd.prog 9 #[] w fun e w' => e = .returned (.bool true) ∧ Below w.heap.size w w' := by
  obtain ⟨n, hn⟩ : ∃ n, s0.bytes.length = n := ⟨_, rfl⟩
  have h6 := s0_six
  rw [hn] at h6
  have MP : Hid (∀ u A ca, SegAt u s0 A 1 ca none 0 0 → Wid u → Calls Tryd.prog 8 #[.agg #[.int .i64 3, .int .i64 0, .int .i64 0, .int .i64 10, .slice A 1 ca, .slice none 0 0]] u fun e w' => ∃ AV cap, e = .returned (.tuple #[.slice AV n cap, .int .i64 0]) ∧ BRow w' AV n cap s0.bytes ∧ Below u.heap.size u w') := Lib.hid (fun u A ca h hw => by rw [← hn]; exact tput h hw)
  have MG : Hid (∀ u AV cap, BRow u AV n cap s0.bytes → Wid u → Calls Tryd.prog 12 #[.slice AV n cap] u fun e w' => ∃ A n ca B m cb, e = .returned (.tuple #[.agg #[.int .i64 3, .int .i64 0, .int .i64 0, .int .i64 10, .slice A n ca, .slice B m cb], .int .i64 0]) ∧ SegAt w' s0 A n ca B m cb ∧ Below u.heap.size u w') := Lib.hid (fun u AV cap h hw => by rw [← hn] at h ⊢; exact tget h hw)
  have MI : Hid (∀ u AV cap, BRow u AV n cap s0.bytes → Wid u → Calls Tryd.prog 15 #[.slice AV n cap] u fun e w' => ∃ S : Int, e = .returned (.tuple #[.agg #[.int .i64 3, .int .i64 0, .int .i64 0, .int .i64 10, .int .u32 S], .int .i64 0]) ∧ Below u.heap.size u w') := Lib.hid (fun u AV cap h hw => by rw [← hn] at h ⊢; exact tinfo h hw)
  have MC : Hid (∀ u AV cap, BRow u AV n cap s0.bytes → Wid u → Calls Tryd.prog 12 #[.slice AV (n - 1) cap] u fun e w' => e = .returned (.tuple #[.agg #[.int .i64 0, .int .i64 0, .int .i64 0, .int .i64 0, .slice none 0 0, .slice none 0 0], .int .i64 2]) ∧ Below u.heap.size u w') := Lib.hid (fun u AV cap h hw => by rw [← hn] at h ⊢; exact tcut h hw)
  have HH : Hid (∀ u AV cap, BRow u AV n cap s0.bytes → ∃ b off, AV = some ⟨b, off, none⟩ ∧ n ≤ cap ∧ ∀ u', Below u.heap.size u u' → u'.cell? ⟨b, off, none⟩ = some (.int .u8 84)) := Lib.hid (fun u AV cap h => by
    obtain ⟨b, off, e, hc⟩ := h.bytes.at_ (by have := h.len; omega)
    refine ⟨b, off, e, h.le, fun u' hu => ?_⟩
    have h0 := hc 0 (by have := h.len; omega)
    rw [s0_head, Nat.add_zero] at h0
    rw [hu.cell (World.block_lt_of_cell? u _ h0)]
    exact h0)
  have HW := Lib.hid hw
  have HN : Hid (s0.bytes.length = n) := Lib.hid hn
  clear hn hw
  have hi6 : (6 : Int) < (n : Int) := by omega
  have i0 : (0 : Int) < (n : Int) := by omega
  have i1 : IntKind.i64.wrap ((n : Int) - 1) = ((n - 1 : Nat) : Int) := by rw [IntKind.wrap_i64]; omega
  have i2 : max ((n - 1 : Nat) : Int) 0 = ((n - 1 : Nat) : Int) := by omega
  have H6 := Lib.hid h6
  clear h6
  go_enter Tryd.func9, Tryd.ntmps9
  go_upto_region 2 with fail
  have HT1 : Hid (Later ((w.alloc (.cells #[.int .i64 3, .int .i64 5] 28)).alloc (.cells #[.int .i64 3, .int .i64 0, .int .i64 0, .int .i64 10, .slice (some ⟨w.heap.size, 0, none⟩) 1 1, .slice none 0 0] 26)) fun u => SegAt u s0 (some ⟨w.heap.size, 0, none⟩) 1 1 none 0 0 ∧ SgV u (w.heap.size + 1) 3 0 0 10 (.slice (some ⟨w.heap.size, 0, none⟩) 1 1) (.slice none 0 0) ∧ Wid u ∧ Below w.heap.size w u) := Lib.hid (fun u hu => by
    have hb : Below w.heap.size w u := past (past (below_box _ _) (below_box _ _)) hu
    have hv := (SgV.new (w.alloc (.cells #[.int .i64 3, .int .i64 5] 28)) 3 0 0 10 (.slice (some ⟨w.heap.size, 0, none⟩) 1 1) (.slice none 0 0) 26).below hu
    have e : (w.alloc (.cells #[.int .i64 3, .int .i64 5] 28)).heap.size = w.heap.size + 1 := by simp
    rw [e] at hv
    exact ⟨(start_seg w _).below hu, hv, HW.out.below hb, hb⟩)
  generalize ((w.alloc (.cells #[.int .i64 3, .int .i64 5] 28)).alloc (.cells #[.int .i64 3, .int .i64 0, .int .i64 0, .int .i64 10, .slice (some ⟨w.heap.size, 0, none⟩) 1 1, .slice none 0 0] 26)) = w1 at *
  generalize w.heap.size + 1 = g1 at *
  obtain ⟨a0, a1, a2, a3, a4, a5, _⟩ := HT1.out.now.2.1
  go_wp2_with fail
  refine (MP.out _ _ _ HT1.out.now.1 HT1.out.now.2.2.1).mono ?_
  rintro e w2 ⟨AV, cap, rfl, hr, hb⟩
  have HT2 := Lib.hid (HT1.out.on hb)
  obtain ⟨bb, bo, rfl, hcap, hc0⟩ := HH.out _ _ _ hr
  have HR2 : Hid (Later w2 fun u => BRow u (some ⟨bb, bo, none⟩) n cap s0.bytes ∧ u.cell? ⟨bb, bo, none⟩ = some (.int .u8 84)) := Lib.hid (fun u hu => ⟨hr.below hu, hc0 u hu⟩)
  clear a0 a1 a2 a3 a4 a5 hr hb hc0 HT1 HH MP
  go_wp2_with fail
  refine (MG.out _ _ _ HR2.out.now.1 HT2.out.now.2.2.1).mono ?_
  rintro e w3 ⟨A3, n3, ca3, B3, m3, cb3, rfl, hs3, hb⟩
  go_upto_region 4 with fail
  have HT4 : Hid (Later (w3.alloc (.cells #[.int .i64 3, .int .i64 0, .int .i64 0, .int .i64 10, .slice A3 n3 ca3, .slice B3 m3 cb3] 26)) _) := Lib.hid ((HT2.out.on hb).on (below_box _ _))
  have HR4 : Hid (Later (w3.alloc (.cells #[.int .i64 3, .int .i64 0, .int .i64 0, .int .i64 10, .slice A3 n3 ca3, .slice B3 m3 cb3] 26)) _) := Lib.hid ((HR2.out.on hb).on (below_box _ _))
  have HX4 : Hid (Later (w3.alloc (.cells #[.int .i64 3, .int .i64 0, .int .i64 0, .int .i64 10, .slice A3 n3 ca3, .slice B3 m3 cb3] 26)) fun u => SegAt u s0 A3 n3 ca3 B3 m3 cb3 ∧ SgV u w3.heap.size 3 0 0 10 (.slice A3 n3 ca3) (.slice B3 m3 cb3)) := Lib.hid (fun u hu => ⟨(hs3.below (below_box _ _)).below hu, (SgV.new w3 3 0 0 10 _ _ 26).below hu⟩)
  clear hb hs3 HT2 HR2 MG
  generalize w3.alloc (.cells #[.int .i64 3, .int .i64 0, .int .i64 0, .int .i64 10, .slice A3 n3 ca3, .slice B3 m3 cb3] 26) = w4 at *
  generalize w3.heap.size = gx at *
  go_wp2_with fail
  refine (MI.out _ _ _ HR4.out.now.1 HT4.out.now.2.2.1).mono ?_
  rintro e w5 ⟨S, rfl, hb⟩
  go_upto_region 5 with fail
  have HT6 : Hid (Later (w5.alloc (.cells #[.int .i64 3, .int .i64 0, .int .i64 0, .int .i64 10, .int .u32 S] 50)) _) := Lib.hid ((HT4.out.on hb).on (below_box _ _))
  have HR6 : Hid (Later (w5.alloc (.cells #[.int .i64 3, .int .i64 0, .int .i64 0, .int .i64 10, .int .u32 S] 50)) _) := Lib.hid ((HR4.out.on hb).on (below_box _ _))
  have HX6 : Hid (Later (w5.alloc (.cells #[.int .i64 3, .int .i64 0, .int .i64 0, .int .i64 10, .int .u32 S] 50)) _) := Lib.hid ((HX4.out.on hb).on (below_box _ _))
  have HI6 : Hid (Later (w5.alloc (.cells #[.int .i64 3, .int .i64 0, .int .i64 0, .int .i64 10, .int .u32 S] 50)) fun u => IfV u w5.heap.size 3 0 0 10 S) := Lib.hid (fun u hu => (IfV.new w5 3 0 0 10 S 50).below hu)
  clear hb HT4 HR4 HX4 MI
  generalize w5.alloc (.cells #[.int .i64 3, .int .i64 0, .int .i64 0, .int .i64 10, .int .u32 S] 50) = w6 at *
  generalize w5.heap.size = gi at *
  obtain ⟨a0, a1, a2, a3, a4, a5, _⟩ := HT6.out.now.2.1
  go_wp2_with fail
  refine (troll HT6.out.now.1 HT6.out.now.2.2.1).mono ?_
  rintro e w7 ⟨B, cb, rfl, hr7, hb⟩
  clear a0 a1 a2 a3 a4 a5
  go_upto_region 6 with fail
  have HT8 : Hid (Later (w7.alloc (.cells #[.int .i64 4, .int .i64 1, .int .i64 0, .int .i64 10, .slice none 0 0, .slice B 1 cb] 26)) _) := Lib.hid ((HT6.out.on hb).on (below_box _ _))
  have HR8 : Hid (Later (w7.alloc (.cells #[.int .i64 4, .int .i64 1, .int .i64 0, .int .i64 10, .slice none 0 0, .slice B 1 cb] 26)) _) := Lib.hid ((HR6.out.on hb).on (below_box _ _))
  have HX8 : Hid (Later (w7.alloc (.cells #[.int .i64 4, .int .i64 1, .int .i64 0, .int .i64 10, .slice none 0 0, .slice B 1 cb] 26)) _) := Lib.hid ((HX6.out.on hb).on (below_box _ _))
  have HI8 : Hid (Later (w7.alloc (.cells #[.int .i64 4, .int .i64 1, .int .i64 0, .int .i64 10, .slice none 0 0, .slice B 1 cb] 26)) _) := Lib.hid ((HI6.out.on hb).on (below_box _ _))
  obtain ⟨rb, ro, rfl, hcell⟩ := hr7.2.1.2 (by decide)
  have HO8 : Hid (Later (w7.alloc (.cells #[.int .i64 4, .int .i64 1, .int .i64 0, .int .i64 10, .slice none 0 0, .slice (some ⟨rb, ro, none⟩) 1 cb] 26)) fun u => SgV u w7.heap.size 4 1 0 10 (.slice none 0 0) (.slice (some ⟨rb, ro, none⟩) 1 cb) ∧ u.cell? ⟨rb, ro + 2, none⟩ = some (.int .i64 5)) := Lib.hid (fun u hu => ⟨(SgV.new w7 4 1 0 10 _ _ 26).below hu, by
    have h0 := (((hcell 0 (by decide)).below (below_box _ _)).below hu).2.2.1
    rw [Nat.zero_mul, Nat.add_zero] at h0
    exact h0⟩)
  clear hb hr7 hcell HT6 HR6 HX6 HI6
  generalize w7.alloc (.cells #[.int .i64 4, .int .i64 1, .int .i64 0, .int .i64 10, .slice none 0 0, .slice (some ⟨rb, ro, none⟩) 1 cb] 26) = w8 at *
  generalize w7.heap.size = gr at *
  have hs1 := fun w => sliceB_hi (A := some ⟨bb, bo, none⟩) (n := n) (k := n - 1) (cap := cap) (by omega) w
  have kmx := fun ts t W => max2 ts t ((n - 1 : Nat) : Int) 0 W
  simp only [i2] at kmx
  go_wp2_with fail
  refine (MC.out _ _ _ HR8.out.now.1 HT8.out.now.2.2.1).mono ?_
  rintro e w9 ⟨rfl, hb⟩
  have HT9 := Lib.hid (HT8.out.on hb)
  have HR9 := Lib.hid (HR8.out.on hb)
  have HX9 := Lib.hid (HX8.out.on hb)
  have HI9 := Lib.hid (HI8.out.on hb)
  have HO9 := Lib.hid (HO8.out.on hb)
  clear hb HT8 HR8 HX8 HI8 HO8 MC hs1 kmx
  go_upto_region 7 with fail
  have hb : Below w9.heap.size w9 (w9.alloc (.cells #[.int .i64 0, .int .i64 0, .int .i64 0, .int .i64 0, .slice none 0 0, .slice none 0 0] 26)) := below_box _ _
  have HT10 := Lib.hid (HT9.out.on hb)
  have HR10 := Lib.hid (HR9.out.on hb)
  have HX10 := Lib.hid (HX9.out.on hb)
  have HI10 := Lib.hid (HI9.out.on hb)
  have HO10 := Lib.hid (HO9.out.on hb)
  clear hb HT9 HR9 HX9 HI9 HO9
  generalize w9.alloc (.cells #[.int .i64 0, .int .i64 0, .int .i64 0, .int .i64 0, .slice none 0 0, .slice none 0 0] 26) = w10 at *
  go_wp2_with fail
  refine (rollG_nil (by omega) (by unfold coarse; omega)).mono ?_
  rintro e w11 ⟨B9, m9, cb9, rfl, _, hb⟩
  simp only [Sg.zero]
  have HT11 := Lib.hid (HT10.out.on hb)
  have HR11 := Lib.hid (HR10.out.on hb)
  have HX11 := Lib.hid (HX10.out.on hb)
  have HI11 := Lib.hid (HI10.out.on hb)
  have HO11 := Lib.hid (HO10.out.on hb)
  clear hb HT10 HR10 HX10 HI10 HO10
  go_upto_region 8 with fail
  have hb : Below w11.heap.size w11 (w11.alloc (.cells #[.int .i64 0, .int .i64 0, .int .i64 0, .int .i64 0, .slice none 0 0, .slice B9 m9 cb9] 26)) := below_box _ _
  have HT12 := Lib.hid (HT11.out.on hb)
  have HR12 := Lib.hid (HR11.out.on hb)
  have HX12 := Lib.hid (HX11.out.on hb)
  have HI12 := Lib.hid (HI11.out.on hb)
  have HO12 := Lib.hid (HO11.out.on hb)
  clear hb HT11 HR11 HX11 HI11 HO11
  generalize w11.alloc (.cells #[.int .i64 0, .int .i64 0, .int .i64 0, .int .i64 0, .slice none 0 0, .slice B9 m9 cb9] 26) = w12 at *
  have q0 := HR12.out.now.2
  obtain ⟨x0, x1, x2, x3, x4, x5, _⟩ := HX12.out.now.2
  obtain ⟨a0, a1, a2, a3, a4, a5, _⟩ := HT12.out.now.2.1
  (try simp only [List.append])
  go_wp2_with fail
  refine (sameSeg_eq HX12.out.now.1 HT12.out.now.1).mono ?_
  rintro e w13 ⟨rfl, hb⟩
  have HI13 := Lib.hid (HI12.out.on hb)
  have HT13 := Lib.hid (HT12.out.on hb)
  have HO13 := Lib.hid (HO12.out.on hb)
  clear hb HT12 HO12 HI12 HX12 HR12 q0 x0 x1 x2 x3 x4 x5 a0 a1 a2 a3 a4 a5
  obtain ⟨f0, _, _, f3, _, _, _, _, _, _⟩ := HI13.out.now
  obtain ⟨r0, r1, r2, r3, r4, r5, _⟩ := HO13.out.now.1
  have r6 := HO13.out.now.2
  go_wp2_with fail
  refine (name3 _).mono ?_
  rintro e w14 ⟨rfl, rfl⟩
  go_wp2_with fail
  refine (name0 _).mono ?_
  rintro e w14 ⟨rfl, rfl⟩
  obtain ⟨a0, a1, a2, a3, a4, a5, _⟩ := HT13.out.now.2.1
  go_wp2_with fail
  have m1 := mayG_any HT13.out.now.1 HT13.out.now.2.2.1
  have em : decide (Sg.may ⟨3, 0, 0, 10, [(3, 5)], []⟩) = true := decide_eq_true s0_may
  rw [em] at m1
  refine m1.mono ?_
  rintro e w15 ⟨rfl, hb⟩
  have HT15 := Lib.hid (HT13.out.on hb)
  have HO15 := Lib.hid (HO13.out.on hb)
  clear hb HT13 HO13 m1 em HI13 f0 f3 r0 r1 r2 r3 r4 r5 r6 a0 a1 a2 a3 a4 a5
  go_wp2_with fail
  have m2 := mayG_any (i := 0) (k := 0) (f := 0) (t := 0) (sm := []) (ag := []) (n := 0) (m := 0) (ca := 0) (cb := 0) (A := none) (B := none) (w := w15) ⟨Row.none _, rfl, rowOf_nil _, ⟨by decide, by decide, by decide, by decide, fun s hs => by simp at hs, fun a ha => by simp at ha⟩⟩ HT15.out.now.2.2.1
  have em : decide (Sg.may ⟨0, 0, 0, 0, [], []⟩) = false := decide_eq_false (fun h => absurd h.1.1 (by decide))
  rw [em] at m2
  refine m2.mono ?_
  rintro e w16 ⟨rfl, hb⟩
  have HT16 := Lib.hid (HT15.out.on hb)
  have HO16 := Lib.hid (HO15.out.on hb)
  clear hb HT15 HO15 m2 em
  obtain ⟨a0, a1, a2, a3, a4, a5, _⟩ := HT16.out.now.2.1
  go_wp2_with fail
  refine (sameG_eq HT16.out.now.1 HT16.out.now.1).mono ?_
  rintro e w17 ⟨rfl, hb⟩
  have HT17 := Lib.hid (HT16.out.on hb)
  have HO17 := Lib.hid (HO16.out.on hb)
  clear hb HT16 HO16 a0 a1 a2 a3 a4 a5
  obtain ⟨a0, a1, a2, a3, a4, a5, _⟩ := HT17.out.now.2.1
  obtain ⟨r0, r1, r2, r3, r4, r5, _⟩ := HO17.out.now.1
  go_wp2_with fail
  refine (sameG_ne (by omega)).mono ?_
  rintro e w18 ⟨rfl, hb⟩
  have HB18 := Lib.hid (past HT17.out.now.2.2.2 hb)
  clear hb a0 a1 a2 a3 a4 a5 r0 r1 r2 r3 r4 r5 HT17 HO17
  go_wp2
  go_ret
  exact ⟨rfl, HB18.out⟩
end Go.Proofs.YtepancmkopifpaaDoor
