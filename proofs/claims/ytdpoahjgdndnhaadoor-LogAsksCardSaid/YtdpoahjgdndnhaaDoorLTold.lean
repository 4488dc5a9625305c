/-
  told of the entries in a file: true, from any world.
-/
import Derived.Test.YtdpoahjgdndnhaaDoorLAll
import Derived.Test.YtdpoahjgdndnhaaDoorLMeet
import Derived.Test.YtdpoahjgdndnhaaDoorWMeets
set_option maxRecDepth 100000
namespace Go.Proofs.YtdpoahjgdndnhaaDoor
open Go.RowKit
attribute [local go_sem ↓] Go.wp_at_zero Go.wp_at_succ
set_option linter.unusedVariables false

def aL : Ent := ⟨3, 1, 0, 0, 0, 0, 0, []⟩
def bL : Ent := ⟨2, 1, 4, 0, 0, 0, 0, []⟩
theorem ok_aL : aL.ok := by decide
theorem ok_bL : bL.ok := by decide
theorem may_aL : aL.may := by decide
theorem may_bL : bL.may := by decide
theorem bytes_aL : aL.bytes = [3, 1] := by simp [aL, Ent.bytes, Ent.nums, numsB, textB, enc]
theorem bytes_bL : bL.bytes = [2, 1, 4] := by simp [bL, Ent.bytes, Ent.nums, numsB, textB, enc]
theorem len_fa : (frm aL.bytes).length = 7 := by rw [frm_len, bytes_aL]; simp [enc]
theorem len_fb : (frm bL.bytes).length = 8 := by rw [frm_len, bytes_bL]; simp [enc]
theorem len_ab : (allB [aL, bL]).length = 15 := by rw [allB_cons, List.length_append, len_fa, allB_one, len_fb]
theorem ab_ok : ∀ e ∈ [aL, bL], e.may ∧ e.ok := by
  intro e he
  simp only [List.mem_cons, List.not_mem_nil, or_false] at he
  rcases he with rfl | rfl
  · exact ⟨may_aL, ok_aL⟩
  · exact ⟨may_bL, ok_bL⟩
theorem all_ab : allE [aL, bL] = (allB [aL, bL], 0) := by
  unfold allE
  rw [if_pos (show allMay [aL, bL] from fun e he => (ab_ok e he).1), if_neg (by simp)]
theorem read_ab : readL (allB [aL, bL]) = ([aL, bL], 15) := by
  unfold readL
  rw [readN_some ab_ok (by simp), len_ab]
theorem entB_lt {e : Ent} (h : e.may) : ∀ c ∈ e.bytes, c < 256 := by
  intro c hc
  unfold Ent.bytes at hc
  rw [List.mem_cons, List.mem_append] at hc
  rcases hc with rfl | hc | hc
  · obtain ⟨_, _, hs⟩ := h
    unfold Ent.says at hs
    split at hs
    · omega
    · split at hs
      · omega
      · split at hs
        · omega
        · split at hs
          · omega
          · exact hs.elim
  · unfold numsB at hc
    obtain ⟨n, _, hc⟩ := List.mem_flatMap.1 hc
    exact enc_byte n c hc
  · unfold textB at hc
    obtain ⟨u, _, rfl⟩ := List.mem_map.1 hc
    exact u.toNat_lt
theorem read_a : readL ((allB [aL, bL]).take 14) = ([aL], 7) := by
  have e1 : (allB [aL, bL]).take 14 = allB [aL] ++ (frm bL.bytes).take 7 := by
    rw [allB_cons, allB_one, allB_one, List.take_append, len_fa, List.take_of_length_le (by rw [len_fa]; omega)]
  unfold readL
  rw [e1, readN_all [aL] 2000 _ (fun e he => ab_ok e (by simp at he; simp [he])) (by simp), readN_zero, allB_one, len_fa]
  · rfl
  · rw [first_cut may_bL ok_bL (frm_byte (entB_lt may_bL)) (r := (frm bL.bytes).drop 7) (by rw [List.length_take, len_fb]; omega) (List.take_append_drop _ _)]
theorem row_abL (u : World) : EntRow (u.alloc (.cells #[.int .i64 3, .int .i64 1, .int .i64 0, .int .i64 0, .int .i64 0, .int .i64 0, .int .u32 0, .string ⟨#[]⟩, .int .i64 2, .int .i64 1, .int .i64 4, .int .i64 0, .int .i64 0, .int .i64 0, .int .u32 0, .string ⟨#[]⟩] 25)) (some ⟨u.heap.size, 0, none⟩) 2 2 [aL, bL] :=
  EntRow.lit u [aL, bL] 2 rfl (by omega) (fun e he => (ab_ok e he).2) _ rfl _
theorem row_aaL (u : World) : EntRow (u.alloc (.cells #[.int .i64 3, .int .i64 1, .int .i64 0, .int .i64 0, .int .i64 0, .int .i64 0, .int .u32 0, .string ⟨#[]⟩, .int .i64 3, .int .i64 1, .int .i64 0, .int .i64 0, .int .i64 0, .int .i64 0, .int .u32 0, .string ⟨#[]⟩] 25)) (some ⟨u.heap.size, 0, none⟩) 2 2 [aL, aL] :=
  EntRow.lit u [aL, aL] 2 rfl (by omega) (fun e he => by simp at he; rw [he]; exact ok_aL) _ rfl _
theorem row_aL (u : World) : EntRow (u.alloc (.cells #[.int .i64 3, .int .i64 1, .int .i64 0, .int .i64 0, .int .i64 0, .int .i64 0, .int .u32 0, .string ⟨#[]⟩] 25)) (some ⟨u.heap.size, 0, none⟩) 1 1 [aL] := row_one aL ok_aL u
theorem row_bL (u : World) : EntRow (u.alloc (.cells #[.int .i64 2, .int .i64 1, .int .i64 4, .int .i64 0, .int .i64 0, .int .i64 0, .int .u32 0, .string ⟨#[]⟩] 25)) (some ⟨u.heap.size, 0, none⟩) 1 1 [bL] := row_one bL ok_bL u
/-- What is carried along. -/
structure TL (w u : World) (gA gB : Nat) : Prop where
  nam : Nam u
  pos : 0 < u.heap.size
  below : Below w.heap.size w u
  a : EV u gA aL
  b : EV u gB bL
theorem meet_a : meet [aL] [aL, bL] = 1 := by decide
theorem meet_b : meet [bL] [aL, bL] = 0 := by decide
theorem meet_aa : meet [aL, bL] [aL, aL] = 1 := by decide
theorem frame_zero : Ent.zero.frame = ([], 1) := by decide
set_option maxHeartbeats 8000000 in
theorem toldL_any (w : World) (hw : Nam w) (h0 : 0 < w.heap.size) : Calls Tryd.prog 29 #[] w fun e w' => e = .returned (.bool true) ∧ Below w.heap.size w w' := by
  have HU : Hid (Later w fun u => Nam u ∧ 0 < u.heap.size ∧ Below w.heap.size w u) := Lib.hid (fun u hu => ⟨hw.below h0 hu, Nat.lt_of_lt_of_le h0 hu.size, hu⟩)
  clear hw h0
  go_enter Tryd.func29, Tryd.ntmps29
  go_upto_region 2 with fail
  have hb : Below w.heap.size w ((w.alloc (.cells #[.int .i64 3, .int .i64 1, .int .i64 0, .int .i64 0, .int .i64 0, .int .i64 0, .int .u32 0, .string ⟨#[]⟩] 25)).alloc (.cells #[.int .i64 2, .int .i64 1, .int .i64 4, .int .i64 0, .int .i64 0, .int .i64 0, .int .u32 0, .string ⟨#[]⟩] 25)) := past_alloc (below_box _ _) _
  have HX2 : Hid (Later ((w.alloc (.cells #[.int .i64 3, .int .i64 1, .int .i64 0, .int .i64 0, .int .i64 0, .int .i64 0, .int .u32 0, .string ⟨#[]⟩] 25)).alloc (.cells #[.int .i64 2, .int .i64 1, .int .i64 4, .int .i64 0, .int .i64 0, .int .i64 0, .int .u32 0, .string ⟨#[]⟩] 25)) fun u => TL w u w.heap.size (w.heap.size + 1)) := Lib.hid (fun u hu =>
    have hbu := past hb hu
    ⟨(HU.out u hbu).1, (HU.out u hbu).2.1, hbu, ((EV.new w aL).below (below_box _ _)).below hu, by
      have := (EV.new (w.alloc (.cells #[.int .i64 3, .int .i64 1, .int .i64 0, .int .i64 0, .int .i64 0, .int .i64 0, .int .u32 0, .string ⟨#[]⟩] 25)) bL).below hu
      rwa [World.size_alloc] at this⟩)
  generalize ((w.alloc (.cells #[.int .i64 3, .int .i64 1, .int .i64 0, .int .i64 0, .int .i64 0, .int .i64 0, .int .u32 0, .string ⟨#[]⟩] 25)).alloc (.cells #[.int .i64 2, .int .i64 1, .int .i64 4, .int .i64 0, .int .i64 0, .int .i64 0, .int .u32 0, .string ⟨#[]⟩] 25)) = w2 at *
  generalize w.heap.size + 1 = gB at *
  generalize hgA : w.heap.size = gA at HX2 ⊢
  clear hb HU hgA
  obtain ⟨a0, a1, a2, a3, a4, a5, a6, a7, _⟩ := HX2.out.now.a
  obtain ⟨b0, b1, b2, b3, b4, b5, b6, b7, _⟩ := HX2.out.now.b
  unfold aL at a0 a1 a2 a3 a4 a5 a6 a7
  unfold bL at b0 b1 b2 b3 b4 b5 b6 b7
  simp only at a0 a1 a2 a3 a4 a5 a6 a7 b0 b1 b2 b3 b4 b5 b6 b7
  have hb3 := below_box w2 (.cells #[.int .i64 3, .int .i64 1, .int .i64 0, .int .i64 0, .int .i64 0, .int .i64 0, .int .u32 0, .string ⟨#[]⟩, .int .i64 2, .int .i64 1, .int .i64 4, .int .i64 0, .int .i64 0, .int .i64 0, .int .u32 0, .string ⟨#[]⟩] 25)
  have M := all_log (row_abL w2) (by rw [len_ab]; omega) (HX2.out _ hb3).nam (HX2.out _ hb3).pos
  rw [all_ab] at M
  unfold PutEPost at M
  simp only [len_ab] at M
  have HM := Lib.hid M
  have HX3 := Lib.hid (HX2.out.on hb3)
  clear M hb3 HX2
  go_wp2_with fail
  refine HM.out.mono ?_
  rintro en w3 ⟨A, cap, rfl, hr, hb, _⟩
  have HX4 := Lib.hid (HX3.out.on hb)
  have HR4 : Hid (Later w3 fun u => BRow u A 15 cap (allB [aL, bL])) := Lib.hid (fun u hu => hr.below hu)
  clear HM hr hb HX3 a0 a1 a2 a3 a4 a5 a6 a7 b0 b1 b2 b3 b4 b5 b6 b7
  have M := read_log HR4.out.now (by omega) HX4.out.now.nam HX4.out.now.pos
  rw [read_ab] at M
  have HM : Hid (Calls Tryd.prog 28 #[.slice A 15 cap] w3 fun e w' => ∃ A' cap', e = .returned (.tuple #[.slice A' 2 cap', .int .i64 15]) ∧ EntRow w' A' 2 cap' [aL, bL] ∧ Below w3.heap.size w3 w') := Lib.hid M
  clear M
  go_wp2_with fail
  refine HM.out.mono ?_
  rintro en w4 ⟨L5, c5, rfl, hr, hb⟩
  have HX5 := Lib.hid (HX4.out.on hb)
  have HR5 := Lib.hid (HR4.out.on hb)
  have HL5 : Hid (Later w4 fun u => EntRow u L5 2 c5 [aL, bL]) := Lib.hid (fun u hu => hr.below hu)
  clear HM hr hb HX4 HR4
  have hcap := HR5.out.now.le
  have hs := fun w => sliceB_hi (A := A) (n := 15) (k := 14) (cap := cap) (by omega) w
  have M := read_log (HR5.out.now.take (show 14 ≤ 15 by omega)) (by omega) HX5.out.now.nam HX5.out.now.pos
  rw [read_a] at M
  have HM : Hid (Calls Tryd.prog 28 #[.slice A 14 cap] w4 fun e w' => ∃ A' cap', e = .returned (.tuple #[.slice A' 1 cap', .int .i64 7]) ∧ EntRow w' A' 1 cap' [aL] ∧ Below w4.heap.size w4 w') := Lib.hid M
  clear M
  go_wp2_with fail
  refine HM.out.mono ?_
  rintro en w5 ⟨L7, c7, rfl, hr, hb⟩
  have HX6 := Lib.hid (HX5.out.on hb)
  have HL6 := Lib.hid (HL5.out.on hb)
  clear HM hr hb HX5 HR5 HL5 hs hcap
  have M := frame_ent Ent.zero w5 (by decide) HX6.out.now.nam HX6.out.now.pos
  rw [frame_zero] at M
  have HM : Hid (Calls Tryd.prog 26 #[.agg #[.int .i64 0, .int .i64 0, .int .i64 0, .int .i64 0, .int .i64 0, .int .i64 0, .int .u32 0, .string ⟨#[]⟩]] w5 fun e w' => ∃ (A : Option Addr) (cap : Nat), e = .returned (.tuple #[.slice A 0 cap, .int .i64 1]) ∧ BRow w' A 0 cap [] ∧ Below w5.heap.size w5 w' ∧ ∀ ad, A = some ad → w5.heap.size ≤ ad.block) := Lib.hid M
  clear M
  go_wp2_with fail
  refine HM.out.mono ?_
  rintro en w7 ⟨L9, c9, rfl, hr, hb, _⟩
  have HX7 := Lib.hid (HX6.out.on hb)
  have HL7 := Lib.hid (HL6.out.on hb)
  clear HM hr hb HX6 HL6
  go_upto_region 8 with fail
  obtain ⟨b, off, rfl, hlt, hc⟩ := HL7.out.now.cells (by omega)
  have HST : Hid (∀ w', Below w7.heap.size w7 w' → w'.cell? ⟨b, off + 8, none⟩ = some (.int .i64 2) ∧ w'.cell? ⟨b, off + 9, none⟩ = some (.int .i64 1) ∧ w'.cell? ⟨b, off + 10, none⟩ = some (.int .i64 4) ∧ w'.cell? ⟨b, off + 11, none⟩ = some (.int .i64 0) ∧ w'.cell? ⟨b, off + 12, none⟩ = some (.int .i64 0) ∧ w'.cell? ⟨b, off + 13, none⟩ = some (.int .i64 0) ∧ w'.cell? ⟨b, off + 14, none⟩ = some (.int .u32 0) ∧ w'.cell? ⟨b, off + 15, none⟩ = some (.string ⟨#[]⟩) ∧ w'.cell? ⟨gA, 0, none⟩ = some (.int .i64 3) ∧ w'.cell? ⟨gA, 1, none⟩ = some (.int .i64 1) ∧ w'.cell? ⟨gA, 2, none⟩ = some (.int .i64 0) ∧ w'.cell? ⟨gA, 3, none⟩ = some (.int .i64 0) ∧ w'.cell? ⟨gA, 4, none⟩ = some (.int .i64 0) ∧ w'.cell? ⟨gA, 5, none⟩ = some (.int .i64 0) ∧ w'.cell? ⟨gA, 6, none⟩ = some (.int .u32 0) ∧ w'.cell? ⟨gA, 7, none⟩ = some (.string ⟨#[]⟩) ∧ w'.cell? ⟨gB, 0, none⟩ = some (.int .i64 2) ∧ w'.cell? ⟨gB, 1, none⟩ = some (.int .i64 1) ∧ w'.cell? ⟨gB, 2, none⟩ = some (.int .i64 4) ∧ w'.cell? ⟨gB, 3, none⟩ = some (.int .i64 0) ∧ w'.cell? ⟨gB, 4, none⟩ = some (.int .i64 0) ∧ w'.cell? ⟨gB, 5, none⟩ = some (.int .i64 0) ∧ w'.cell? ⟨gB, 6, none⟩ = some (.int .u32 0) ∧ w'.cell? ⟨gB, 7, none⟩ = some (.string ⟨#[]⟩)) := Lib.hid (fun w' hu => by
    obtain ⟨x0, x1, x2, x3, x4, x5, x6, x7⟩ := hc 1 (by omega)
    obtain ⟨a0, a1, a2, a3, a4, a5, a6, a7, _⟩ := (HX7.out w' hu).a
    obtain ⟨b0, b1, b2, b3, b4, b5, b6, b7, _⟩ := (HX7.out w' hu).b
    exact ⟨by rw [hu.cell hlt]; exact x0, by rw [hu.cell hlt]; exact x1, by rw [hu.cell hlt]; exact x2, by rw [hu.cell hlt]; exact x3, by rw [hu.cell hlt]; exact x4, by rw [hu.cell hlt]; exact x5, by rw [hu.cell hlt]; exact x6, by rw [hu.cell hlt]; exact x7, a0, a1, a2, a3, a4, a5, a6, a7, b0, b1, b2, b3, b4, b5, b6, b7⟩)
  have HBD : Hid (∀ m, Below w7.heap.size w7 (w7.drewN m)) := Lib.hid (fun m => below_drewN _ _)
  have MF1 : Hid (∀ v, Below w7.heap.size w7 v → ∀ u, Below (v.alloc (.cells #[.int .i64 3, .int .i64 1, .int .i64 0, .int .i64 0, .int .i64 0, .int .i64 0, .int .u32 0, .string ⟨#[]⟩] 25)).heap.size (v.alloc (.cells #[.int .i64 3, .int .i64 1, .int .i64 0, .int .i64 0, .int .i64 0, .int .i64 0, .int .u32 0, .string ⟨#[]⟩] 25)) u → Calls Tryd.prog 34 #[.slice (some ⟨v.heap.size, 0, none⟩) 1 1, .slice (some ⟨b, off, none⟩) 2 c5] u fun e w' => e = .returned (.bool true) ∧ Below w7.heap.size w7 w') := Lib.hid (fun v hv u hu => by
    have h := front_any ((row_aL v).below hu) (HL7.out _ (past (past hv (below_box _ _)) hu))
    rw [meet_a] at h
    refine h.mono ?_
    rintro e w' ⟨he, hb⟩
    exact ⟨he, past (past (past hv (below_box _ _)) hu) hb⟩)
  have MF2 : Hid (∀ v, Below w7.heap.size w7 v → ∀ u, Below (v.alloc (.cells #[.int .i64 2, .int .i64 1, .int .i64 4, .int .i64 0, .int .i64 0, .int .i64 0, .int .u32 0, .string ⟨#[]⟩] 25)).heap.size (v.alloc (.cells #[.int .i64 2, .int .i64 1, .int .i64 4, .int .i64 0, .int .i64 0, .int .i64 0, .int .u32 0, .string ⟨#[]⟩] 25)) u → Calls Tryd.prog 34 #[.slice (some ⟨v.heap.size, 0, none⟩) 1 1, .slice (some ⟨b, off, none⟩) 2 c5] u fun e w' => e = .returned (.bool false) ∧ Below w7.heap.size w7 w') := Lib.hid (fun v hv u hu => by
    have h := front_any ((row_bL v).below hu) (HL7.out _ (past (past hv (below_box _ _)) hu))
    rw [meet_b] at h
    refine h.mono ?_
    rintro e w' ⟨he, hb⟩
    exact ⟨he, past (past (past hv (below_box _ _)) hu) hb⟩)
  have MM : Hid (∀ v, Below w7.heap.size w7 v → ∀ u, Below (v.alloc (.cells #[.int .i64 3, .int .i64 1, .int .i64 0, .int .i64 0, .int .i64 0, .int .i64 0, .int .u32 0, .string ⟨#[]⟩, .int .i64 3, .int .i64 1, .int .i64 0, .int .i64 0, .int .i64 0, .int .i64 0, .int .u32 0, .string ⟨#[]⟩] 25)).heap.size (v.alloc (.cells #[.int .i64 3, .int .i64 1, .int .i64 0, .int .i64 0, .int .i64 0, .int .i64 0, .int .u32 0, .string ⟨#[]⟩, .int .i64 3, .int .i64 1, .int .i64 0, .int .i64 0, .int .i64 0, .int .i64 0, .int .u32 0, .string ⟨#[]⟩] 25)) u → Calls Tryd.prog 36 #[.slice (some ⟨b, off, none⟩) 2 c5, .slice (some ⟨v.heap.size, 0, none⟩) 2 2] u fun e w' => e = .returned (.int .i64 1) ∧ Below w7.heap.size w7 w') := Lib.hid (fun v hv u hu => by
    have h := meet_any (HL7.out _ (past (past hv (below_box _ _)) hu)) ((row_aaL v).below hu)
    rw [meet_aa] at h
    refine h.mono ?_
    rintro e w' ⟨he, hb⟩
    exact ⟨he, past (past (past hv (below_box _ _)) hu) hb⟩)
  have HB7 := Lib.hid HX7.out.now.below
  have hq : ∀ u, (binOp .eql 25 (.agg #[.int .i64 2, .int .i64 1, .int .i64 4, .int .i64 0, .int .i64 0, .int .i64 0, .int .u32 0, .string ⟨#[]⟩]) (.agg #[.int .i64 2, .int .i64 1, .int .i64 4, .int .i64 0, .int .i64 0, .int .i64 0, .int .u32 0, .string ⟨#[]⟩])).run Tryd.prog u = .ok (.bool true) u := fun u => by
    have h := ent_eql bL bL u
    rw [decide_eq_true rfl] at h
    exact h
  clear hc hlt HX7 HL7
  obtain ⟨r0, r1, r2, r3, r4, r5, r6, r7, a0, a1, a2, a3, a4, a5, a6, a7, b0, b1, b2, b3, b4, b5, b6, b7⟩ := HST.out w7 (Below.refl _ _)
  have hS1 := HBD.out 1
  have hS0 : Below w7.heap.size w7 w7.drew := below_drewN w7 1
  go_region_held3 (fun w' => w'.cell? ⟨b, off + 8, none⟩ = some (.int .i64 2) ∧ w'.cell? ⟨b, off + 9, none⟩ = some (.int .i64 1) ∧ w'.cell? ⟨b, off + 10, none⟩ = some (.int .i64 4) ∧ w'.cell? ⟨b, off + 11, none⟩ = some (.int .i64 0) ∧ w'.cell? ⟨b, off + 12, none⟩ = some (.int .i64 0) ∧ w'.cell? ⟨b, off + 13, none⟩ = some (.int .i64 0) ∧ w'.cell? ⟨b, off + 14, none⟩ = some (.int .u32 0) ∧ w'.cell? ⟨b, off + 15, none⟩ = some (.string ⟨#[]⟩) ∧ w'.cell? ⟨gA, 0, none⟩ = some (.int .i64 3) ∧ w'.cell? ⟨gA, 1, none⟩ = some (.int .i64 1) ∧ w'.cell? ⟨gA, 2, none⟩ = some (.int .i64 0) ∧ w'.cell? ⟨gA, 3, none⟩ = some (.int .i64 0) ∧ w'.cell? ⟨gA, 4, none⟩ = some (.int .i64 0) ∧ w'.cell? ⟨gA, 5, none⟩ = some (.int .i64 0) ∧ w'.cell? ⟨gA, 6, none⟩ = some (.int .u32 0) ∧ w'.cell? ⟨gA, 7, none⟩ = some (.string ⟨#[]⟩) ∧ w'.cell? ⟨gB, 0, none⟩ = some (.int .i64 2) ∧ w'.cell? ⟨gB, 1, none⟩ = some (.int .i64 1) ∧ w'.cell? ⟨gB, 2, none⟩ = some (.int .i64 4) ∧ w'.cell? ⟨gB, 3, none⟩ = some (.int .i64 0) ∧ w'.cell? ⟨gB, 4, none⟩ = some (.int .i64 0) ∧ w'.cell? ⟨gB, 5, none⟩ = some (.int .i64 0) ∧ w'.cell? ⟨gB, 6, none⟩ = some (.int .u32 0) ∧ w'.cell? ⟨gB, 7, none⟩ = some (.string ⟨#[]⟩))
    (first
      | with_reducible exact HST.out _ hS0
      | with_reducible exact HST.out _ (past_alloc (Below.refl _ _) _).drew
      | with_reducible exact HST.out _ hT1
      | with_reducible exact HST.out _ (past_alloc hT1 _)
      | with_reducible exact HST.out _ (past_alloc hT1 _).drew
      | with_reducible exact HST.out _ hT2
      | with_reducible exact HST.out _ (past_alloc hT2 _)
      | with_reducible exact HST.out _ (past_alloc hT2 _).drew
      | with_reducible exact HST.out _ hT3
      | with_reducible exact HST.out _ (Below.refl _ _))
    (first
      | (go_at_call 34; with_reducible refine (MF1.out _ (Below.refl _ _) _ ?hz).mono ?_; (case hz => first | with_reducible exact Below.refl _ _ | with_reducible exact (Below.refl _ _).drew); rintro e wt1 ⟨rfl, hT1⟩)
      | (go_at_call 34; with_reducible refine (MF2.out _ hT1 _ ?hz).mono ?_; (case hz => first | with_reducible exact Below.refl _ _ | with_reducible exact (Below.refl _ _).drew); rintro e wt2 ⟨rfl, hT2⟩)
      | (go_at_call 36; with_reducible refine (MM.out _ hT2 _ ?hz).mono ?_; (case hz => first | with_reducible exact Below.refl _ _ | with_reducible exact (Below.refl _ _).drew); rintro e wt3 ⟨rfl, hT3⟩))
  have HF := Lib.hid (past HB7.out hT3)
  clear hS1 hS0 hT1 hT2 hT3
  go_wp2
  go_ret
  exact ⟨rfl, HF.out⟩
theorem toldL : ToldL := toldL_any
end Go.Proofs.YtdpoahjgdndnhaaDoor
