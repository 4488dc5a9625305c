/-
  The walk of SegmentInfos: it returns true, and writes nothing that was there.
-/
import Derived.Test.YtepancmkopifpaaDoorMLaw
import Derived.Deep.DeepCutAuto
set_option maxRecDepth 100000
namespace Go.Proofs.YtepancmkopifpaaDoor.segmentInfos
open Go.RowKit
attribute [local go_sem ↓] Go.wp_at_zero Go.wp_at_succ
set_option linter.unusedVariables false

theorem ids_ne {a o : Int} (ha : In64 a) (ho : o = 1 ∨ o = 2) : (IntKind.u64.wrap a).tmod 1000 ≠ (IntKind.u64.wrap (IntKind.i64.wrap (a + o))).tmod 1000 := by
  unfold In64 at ha
  have e1 : IntKind.u64.wrap a = a % 18446744073709551616 := by rw [IntKind.wrap_u64]
  have e2 : IntKind.u64.wrap (IntKind.i64.wrap (a + o)) = (a + o) % 18446744073709551616 := by rw [IntKind.wrap_u64, IntKind.wrap_i64]; omega
  rw [e1, e2, Int.tmod_eq_emod_of_nonneg (by omega), Int.tmod_eq_emod_of_nonneg (by omega)]
  omega
theorem infos_cases {a o3 o2 : Int} {l1 l2 : List Int} {len1 len2 : Nat} (ha : In64 a) (h3 : 0 ≤ o3 ∧ o3 < 3) (h2 : 0 ≤ o2 ∧ o2 < 2) :
    mkS a 3 l1 l2 len1 len2 = mkS (IntKind.i64.wrap (a + o3)) (IntKind.i64.wrap (3 + o2)) l1 l2 len1 len2 ∨ (mkS a 3 l1 l2 len1 len2).id ≠ (mkS (IntKind.i64.wrap (a + o3)) (IntKind.i64.wrap (3 + o2)) l1 l2 len1 len2).id ∨ (mkS a 3 l1 l2 len1 len2).fr ≠ (mkS (IntKind.i64.wrap (a + o3)) (IntKind.i64.wrap (3 + o2)) l1 l2 len1 len2).fr := by
  have h4 : IntKind.i64.wrap (3 + o2) = 3 + o2 := by rw [IntKind.wrap_i64]; omega
  rw [h4]
  by_cases c2 : o2 = 0
  · by_cases c3 : o3 = 0
    · subst c2 c3
      have e : IntKind.i64.wrap (a + 0) = a := by unfold In64 at ha; rw [IntKind.wrap_i64]; omega
      rw [e]
      exact .inl rfl
    · right; left
      show 1 + (IntKind.u64.wrap a).tmod 1000 ≠ 1 + (IntKind.u64.wrap (IntKind.i64.wrap (a + o3))).tmod 1000
      have := ids_ne (o := o3) ha (by omega)
      omega
  · right; right
    show (3 : Int) ≠ 3 + o2
    omega
/-- Same tells of two segments just what their bytes tell. -/
theorem same_any {i f t i' f' t' : Int} {sm sm' : List (Int × Int)} {A A' : Option Addr} {n ca n' ca' : Nat} {w : World} (h1 : SegAt w ⟨i, 0, f, t, sm, []⟩ A n ca none 0 0) (h2 : SegAt w ⟨i', 0, f', t', sm', []⟩ A' n' ca' none 0 0)
    (m1 : Sg.may ⟨i, 0, f, t, sm, []⟩) (m2 : Sg.may ⟨i', 0, f', t', sm', []⟩) (h : (⟨i, 0, f, t, sm, []⟩ : Sg) = ⟨i', 0, f', t', sm', []⟩ ∨ i ≠ i' ∨ f ≠ f') :
    Calls Tryd.prog 13 #[.agg #[.int .i64 i, .int .i64 0, .int .i64 f, .int .i64 t, .slice A n ca, .slice none 0 0], .agg #[.int .i64 i', .int .i64 0, .int .i64 f', .int .i64 t', .slice A' n' ca', .slice none 0 0]] w
      fun e w' => e = .returned (.bool (decide (Sg.bytes ⟨i, 0, f, t, sm, []⟩ = Sg.bytes ⟨i', 0, f', t', sm', []⟩))) ∧ Below w.heap.size w w' := by
  by_cases hb : Sg.bytes ⟨i, 0, f, t, sm, []⟩ = Sg.bytes ⟨i', 0, f', t', sm', []⟩
  · rw [decide_eq_true hb]
    have f1 := tier0_file m1 h1.ok rfl
    have f2 := tier0_file m2 h2.ok rfl
    rw [← hb] at f2
    have e := file_uniq f1 f2
    injection e with e1 e2 e3 e4 e5 e6
    subst e1 e3 e4 e5
    exact sameG_eq h1 h2
  · rw [decide_eq_false hb]
    refine sameG_ne (fun h' => ?_)
    obtain ⟨e1, _, e3, _⟩ := h'
    rcases h with h | h | h
    · exact hb (by rw [h])
    · exact h e1
    · exact h e3

set_option maxHeartbeats 1000000 in
theorem walk (a0 : Int) (a1 : Option Addr) (len1 cap1 : Nat) (l1 : List Int) (a2 : Option Addr) (len2 cap2 : Nat) (l2 : List Int) (a3 : Int) (w : World) (w0 : (Lit.int .i64 a0).wf = true) (s1 : Ints w a1 len1 cap1 l1) (z1 : len1 * 8 ≤ 140737488351232) (s2 : Ints w a2 len2 cap2 l2) (w3 : (Lit.int .i64 a3).wf = true) (hw : Wid w) :
    Calls Tryd.prog 7 #[.int .i64 a0, .slice a1 len1 cap1, .slice a2 len2 cap2, .int .i64 a3] w fun e w' => e = .returned (.bool true) ∧ Below w.heap.size w w' := by
  have ha := fits_i64 w0
  obtain ⟨U, hU⟩ : ∃ U, IntKind.u64.wrap a3 = U := ⟨_, rfl⟩
  have hU0 : 0 ≤ U := by rw [← hU, IntKind.wrap_u64]; omega
  obtain ⟨x, hx, hx0, hx1⟩ : ∃ x : Int, U.tmod 3 = x ∧ 0 ≤ x ∧ x < 3 := ⟨_, rfl, Int.tmod_nonneg 3 hU0, Int.tmod_lt_of_pos _ (by decide)⟩
  obtain ⟨y, hy, hy0, hy1⟩ : ∃ y : Int, U.tmod 2 = y ∧ 0 ≤ y ∧ y < 2 := ⟨_, rfl, Int.tmod_nonneg 2 hU0, Int.tmod_lt_of_pos _ (by decide)⟩
  have k1 : IntKind.u64.wrap x = x := by rw [IntKind.wrap_u64]; omega
  have k2 : IntKind.i64.wrap x = x := by rw [IntKind.wrap_i64]; omega
  have k3 : IntKind.u64.wrap y = y := by rw [IntKind.wrap_u64]; omega
  have k4 : IntKind.i64.wrap y = y := by rw [IntKind.wrap_i64]; omega
  have HC := Lib.hid (infos_cases (l1 := l1) (l2 := l2) (len1 := len1) (len2 := len2) ha ⟨hx0, hx1⟩ ⟨hy0, hy1⟩)
  have hF : 0 ≤ IntKind.i64.wrap (3 + y) ∧ IntKind.i64.wrap (3 + y) ≤ 1000000 := by rw [IntKind.wrap_i64]; omega
  have hI : In64 (IntKind.i64.wrap (a0 + x)) := by unfold In64; rw [IntKind.wrap_i64]; omega
  obtain ⟨I, hIe⟩ : ∃ I, IntKind.i64.wrap (a0 + x) = I := ⟨_, rfl⟩
  obtain ⟨F, hFe⟩ : ∃ F, IntKind.i64.wrap (3 + y) = F := ⟨_, rfl⟩
  rw [hIe, hFe] at HC
  rw [hIe] at hI
  rw [hFe] at hF
  obtain ⟨n, hn⟩ : ∃ n, mkN len1 = n := ⟨_, rfl⟩
  have MA : Hid (∀ u, Below w.heap.size w u → Calls Tryd.prog 11 #[.int .i64 a0, .int .i64 3, .slice a1 len1 cap1, .slice a2 len2 cap2] u (MakeG u (mkS a0 3 l1 l2 len1 len2) n)) := Lib.hid (fun u hu => by rw [← hn]; exact make_any ha (by omega) (s1.below hu) (s2.below hu) z1)
  have MB : Hid (∀ u, Below w.heap.size w u → Calls Tryd.prog 11 #[.int .i64 I, .int .i64 F, .slice a1 len1 cap1, .slice a2 len2 cap2] u (MakeG u (mkS I F l1 l2 len1 len2) n)) := Lib.hid (fun u hu => by rw [← hn]; exact make_any hI hF (s1.below hu) (s2.below hu) z1)
  have HW := Lib.hid hw
  clear ha hI hF s1 s2 z1 w0 w3 hn hw
  generalize mkS a0 3 l1 l2 len1 len2 = S at *
  generalize mkS I F l1 l2 len1 len2 = T at *
  go_enter Tryd.func7, Tryd.ntmps7
  go_wp2_with fail
  refine (MA.out _ (Below.refl _ _)).mono ?_
  rintro e w2 ⟨A, ca, rfl, hs, hr, hb⟩
  obtain ⟨i, f, t, sm, rfl⟩ := raw0_parts hr
  have HA2 : Hid (Later w2 fun u => SegAt u ⟨i, 0, f, t, sm, []⟩ A n ca none 0 0 ∧ Wid u ∧ Below w.heap.size w u) := Lib.hid (fun u hu => ⟨hs.below hu, HW.out.below (past hb hu), past hb hu⟩)
  have HRA := Lib.hid hr
  clear hs hr hb
  simp only
  go_wp2_with fail
  refine (MB.out _ HA2.out.now.2.2).mono ?_
  rintro e w3 ⟨B, cb, rfl, hs, hr, hb⟩
  obtain ⟨i', f', t', sm', rfl⟩ := raw0_parts hr
  have HA3 := Lib.hid (HA2.out.on hb)
  have HB3 : Hid (Later w3 fun u => SegAt u ⟨i', 0, f', t', sm', []⟩ B n cb none 0 0) := Lib.hid (fun u hu => hs.below hu)
  have HRB := Lib.hid hr
  clear hs hr hb HA2 MA MB
  simp only at *
  go_upto_region 2 with fail
  have HX4 : Hid (Later ((w3.alloc (.cells #[.int .i64 i, .int .i64 0, .int .i64 f, .int .i64 t, .slice A n ca, .slice none 0 0] 26)).alloc (.cells #[.int .i64 i', .int .i64 0, .int .i64 f', .int .i64 t', .slice B n cb, .slice none 0 0] 26)) fun u => SegAt u ⟨i, 0, f, t, sm, []⟩ A n ca none 0 0 ∧ SgV u w3.heap.size i 0 f t (.slice A n ca) (.slice none 0 0) ∧ SegAt u ⟨i', 0, f', t', sm', []⟩ B n cb none 0 0 ∧ SgV u (w3.heap.size + 1) i' 0 f' t' (.slice B n cb) (.slice none 0 0) ∧ Wid u ∧ Below w.heap.size w u) := Lib.hid (fun u hu => by
    have hb1 : Below w3.heap.size w3 (w3.alloc (.cells #[.int .i64 i, .int .i64 0, .int .i64 f, .int .i64 t, .slice A n ca, .slice none 0 0] 26)) := below_box _ _
    have hb2 : Below (w3.alloc (.cells #[.int .i64 i, .int .i64 0, .int .i64 f, .int .i64 t, .slice A n ca, .slice none 0 0] 26)).heap.size (w3.alloc (.cells #[.int .i64 i, .int .i64 0, .int .i64 f, .int .i64 t, .slice A n ca, .slice none 0 0] 26)) u := past (below_box _ _) hu
    have hb3 := past hb1 hb2
    have hv := (SgV.new (w3.alloc (.cells #[.int .i64 i, .int .i64 0, .int .i64 f, .int .i64 t, .slice A n ca, .slice none 0 0] 26)) i' 0 f' t' (.slice B n cb) (.slice none 0 0) 26).below hu
    have e : (w3.alloc (.cells #[.int .i64 i, .int .i64 0, .int .i64 f, .int .i64 t, .slice A n ca, .slice none 0 0] 26)).heap.size = w3.heap.size + 1 := by simp
    rw [e] at hv
    exact ⟨(HA3.out.now.1).below hb3, (SgV.new w3 i 0 f t (.slice A n ca) (.slice none 0 0) 26).below hb2, HB3.out.now.below hb3, hv, HA3.out.now.2.1.below hb3, past HA3.out.now.2.2 hb3⟩)
  clear HA3 HB3
  generalize ((w3.alloc (.cells #[.int .i64 i, .int .i64 0, .int .i64 f, .int .i64 t, .slice A n ca, .slice none 0 0] 26)).alloc (.cells #[.int .i64 i', .int .i64 0, .int .i64 f', .int .i64 t', .slice B n cb, .slice none 0 0] 26)) = w4 at *
  generalize w3.heap.size + 1 = g' at *
  generalize w3.heap.size = g at *
  have f1 := tier0_file HRA.out.may HX4.out.now.1.ok rfl
  have hbt := bytes_byte ⟨i, 0, f, t, sm, []⟩
  have hbt' := bytes_byte ⟨i', 0, f', t', sm', []⟩
  have MS : Hid (∀ u, SegAt u ⟨i, 0, f, t, sm, []⟩ A n ca none 0 0 → SegAt u ⟨i', 0, f', t', sm', []⟩ B n cb none 0 0 → Calls Tryd.prog 13 #[.agg #[.int .i64 i, .int .i64 0, .int .i64 f, .int .i64 t, .slice A n ca, .slice none 0 0], .agg #[.int .i64 i', .int .i64 0, .int .i64 f', .int .i64 t', .slice B n cb, .slice none 0 0]] u
      fun e w' => e = .returned (.bool (decide (Sg.bytes ⟨i, 0, f, t, sm, []⟩ = Sg.bytes ⟨i', 0, f', t', sm', []⟩))) ∧ Below u.heap.size u w') := Lib.hid (fun u h1 h2 => same_any h1 h2 HRA.out.may HRB.out.may HC.out)
  have MP : Hid (∀ u, SegAt u ⟨i, 0, f, t, sm, []⟩ A n ca none 0 0 → Wid u → Calls Tryd.prog 8 #[.agg #[.int .i64 i, .int .i64 0, .int .i64 f, .int .i64 t, .slice A n ca, .slice none 0 0]] u fun e w' => ∃ AV cap, e = .returned (.tuple #[.slice AV (Sg.bytes ⟨i, 0, f, t, sm, []⟩).length cap, .int .i64 0]) ∧ BRow w' AV (Sg.bytes ⟨i, 0, f, t, sm, []⟩).length cap (Sg.bytes ⟨i, 0, f, t, sm, []⟩) ∧ Below u.heap.size u w') := Lib.hid (fun u h hw => putG_ok h hw HRA.out.may)
  have MQ : Hid (∀ u, SegAt u ⟨i', 0, f', t', sm', []⟩ B n cb none 0 0 → Wid u → Calls Tryd.prog 8 #[.agg #[.int .i64 i', .int .i64 0, .int .i64 f', .int .i64 t', .slice B n cb, .slice none 0 0]] u fun e w' => ∃ AV cap, e = .returned (.tuple #[.slice AV (Sg.bytes ⟨i', 0, f', t', sm', []⟩).length cap, .int .i64 0]) ∧ BRow w' AV (Sg.bytes ⟨i', 0, f', t', sm', []⟩).length cap (Sg.bytes ⟨i', 0, f', t', sm', []⟩) ∧ Below u.heap.size u w') := Lib.hid (fun u h hw => putG_ok h hw HRB.out.may)
  generalize Sg.bytes ⟨i, 0, f, t, sm, []⟩ = b at *
  generalize Sg.bytes ⟨i', 0, f', t', sm', []⟩ = b' at *
  have MI : Hid (∀ u AV cap, BRow u AV b.length cap b → Wid u → Calls Tryd.prog 15 #[.slice AV b.length cap] u fun e w' => ∃ S : Int, e = .returned (.tuple #[.agg #[.int .i64 i, .int .i64 0, .int .i64 f, .int .i64 t, .int .u32 S], .int .i64 0]) ∧ Below u.heap.size u w') := Lib.hid (fun u AV cap h hw => infoG_ok h f1 hbt hw)
  have HE : Hid (((strB b).toList == (strB b').toList) = decide (b = b')) := Lib.hid (strB_eq hbt hbt')
  have hi1 : 1 ≤ i := HRA.out.may.1.1
  obtain ⟨nb, hnb⟩ : ∃ nb, b.length = nb := ⟨_, rfl⟩
  obtain ⟨nb', hnb'⟩ : ∃ nb, b'.length = nb := ⟨_, rfl⟩
  rw [hnb] at MP MI
  rw [hnb'] at MQ
  have HNB := Lib.hid hnb
  have HNB' := Lib.hid hnb'
  generalize hE : decide (b = b') = E at *
  clear f1 hbt hbt' HRA HRB HC hnb hnb' hE
  obtain ⟨a0, a1, a2, a3, a4, a5, _⟩ := HX4.out.now.2.1
  go_wp2_with fail
  refine (MP.out _ HX4.out.now.1 HX4.out.now.2.2.2.2.1).mono ?_
  rintro e w5 ⟨V1, cp1, rfl, hr, hb⟩
  have HX5 := Lib.hid (HX4.out.on hb)
  have HR5 : Hid (Later w5 fun u => BRow u V1 nb cp1 b) := Lib.hid (fun u hu => hr.below hu)
  clear a0 a1 a2 a3 a4 a5 hr hb HX4 MP
  obtain ⟨a0, a1, a2, a3, a4, a5, _⟩ := HX5.out.now.2.2.2.1
  go_wp2_with fail
  refine (MQ.out _ HX5.out.now.2.2.1 HX5.out.now.2.2.2.2.1).mono ?_
  rintro e w6 ⟨V2, cp2, rfl, hr, hb⟩
  have HX6 := Lib.hid (HX5.out.on hb)
  have HR6 := Lib.hid (HR5.out.on hb)
  have HQ6 : Hid (Later w6 fun u => BRow u V2 nb' cp2 b') := Lib.hid (fun u hu => hr.below hu)
  clear a0 a1 a2 a3 a4 a5 hr hb HX5 HR5 MQ
  go_wp2_with fail
  refine (MI.out _ _ _ HR6.out.now HX6.out.now.2.2.2.2.1).mono ?_
  rintro e w7 ⟨C, rfl, hb⟩
  go_upto_region 5 with fail
  have hb8 : Below w7.heap.size w7 (w7.alloc (.cells #[.int .i64 i, .int .i64 0, .int .i64 f, .int .i64 t, .int .u32 C] 50)) := below_box _ _
  have HX8 := Lib.hid ((HX6.out.on hb).on hb8)
  have HR8 := Lib.hid ((HR6.out.on hb).on hb8)
  have HQ8 := Lib.hid ((HQ6.out.on hb).on hb8)
  have HI8 : Hid (Later (w7.alloc (.cells #[.int .i64 i, .int .i64 0, .int .i64 f, .int .i64 t, .int .u32 C] 50)) fun u => IfV u w7.heap.size i 0 f t C) := Lib.hid (fun u hu => (IfV.new w7 i 0 f t C 50).below hu)
  clear hb hb8 HX6 HR6 HQ6 MI
  generalize w7.alloc (.cells #[.int .i64 i, .int .i64 0, .int .i64 f, .int .i64 t, .int .u32 C] 50) = w8 at *
  generalize w7.heap.size = gi at *
  have A0 : ∀ u : SubB w8, u.w.cell? ⟨g, 0, none⟩ = some (.int .i64 i) := fun u => (HX8.out u.w u.le).2.1.c0
  have A1 : ∀ u : SubB w8, u.w.cell? ⟨g, 1, none⟩ = some (.int .i64 0) := fun u => (HX8.out u.w u.le).2.1.c1
  have A2 : ∀ u : SubB w8, u.w.cell? ⟨g, 2, none⟩ = some (.int .i64 f) := fun u => (HX8.out u.w u.le).2.1.c2
  have A3 : ∀ u : SubB w8, u.w.cell? ⟨g, 3, none⟩ = some (.int .i64 t) := fun u => (HX8.out u.w u.le).2.1.c3
  have A4 : ∀ u : SubB w8, u.w.cell? ⟨g, 4, none⟩ = some (.slice A n ca) := fun u => (HX8.out u.w u.le).2.1.c4
  have A5 : ∀ u : SubB w8, u.w.cell? ⟨g, 5, none⟩ = some (.slice none 0 0) := fun u => (HX8.out u.w u.le).2.1.c5
  have B0 : ∀ u : SubB w8, u.w.cell? ⟨g', 0, none⟩ = some (.int .i64 i') := fun u => (HX8.out u.w u.le).2.2.2.1.c0
  have B1 : ∀ u : SubB w8, u.w.cell? ⟨g', 1, none⟩ = some (.int .i64 0) := fun u => (HX8.out u.w u.le).2.2.2.1.c1
  have B2 : ∀ u : SubB w8, u.w.cell? ⟨g', 2, none⟩ = some (.int .i64 f') := fun u => (HX8.out u.w u.le).2.2.2.1.c2
  have B3 : ∀ u : SubB w8, u.w.cell? ⟨g', 3, none⟩ = some (.int .i64 t') := fun u => (HX8.out u.w u.le).2.2.2.1.c3
  have B4 : ∀ u : SubB w8, u.w.cell? ⟨g', 4, none⟩ = some (.slice B n cb) := fun u => (HX8.out u.w u.le).2.2.2.1.c4
  have B5 : ∀ u : SubB w8, u.w.cell? ⟨g', 5, none⟩ = some (.slice none 0 0) := fun u => (HX8.out u.w u.le).2.2.2.1.c5
  have C0 : ∀ u : SubB w8, u.w.cell? ⟨gi, 0, none⟩ = some (.int .i64 i) := fun u => (HI8.out u.w u.le).c0
  have C1 : ∀ u : SubB w8, u.w.cell? ⟨gi, 1, none⟩ = some (.int .i64 0) := fun u => (HI8.out u.w u.le).c1
  have C2 : ∀ u : SubB w8, u.w.cell? ⟨gi, 2, none⟩ = some (.int .i64 f) := fun u => (HI8.out u.w u.le).c2
  have C3 : ∀ u : SubB w8, u.w.cell? ⟨gi, 3, none⟩ = some (.int .i64 t) := fun u => (HI8.out u.w u.le).c3
  have C4 : ∀ u : SubB w8, u.w.cell? ⟨gi, 4, none⟩ = some (.int .u32 C) := fun u => (HI8.out u.w u.le).c4
  have V0 : ∀ u : SubB w8, (convert 29 9 (.slice V1 nb cp1)).run Tryd.prog u.w = .ok (.string (strB b)) u.w := fun u => conv_bytes (HR8.out u.w u.le).bytes nb cp1 HNB.out
  have V3 : ∀ u : SubB w8, (convert 29 9 (.slice V2 nb' cp2)).run Tryd.prog u.w = .ok (.string (strB b')) u.w := fun u => conv_bytes (HQ8.out u.w u.le).bytes nb' cp2 HNB'.out
  generalize strB b = s1 at *
  generalize strB b' = s2 at *
  have hne : (i == 0) = false := by simp; omega
  have hSS : ((s1.toList == s2.toList) == E) = true := by rw [HE.out]; cases E <;> rfl
  have MT : Hid (∀ u : SubB w8, Calls Tryd.prog 9 #[] u.w fun e w' => e = .returned (.bool true) ∧ Below u.w.heap.size u.w w') := Lib.hid (fun u => told_any u.w (HX8.out u.w u.le).2.2.2.2.1)
  have MU : Hid (∀ u : SubB w8, Calls Tryd.prog 13 #[.agg #[.int .i64 i, .int .i64 0, .int .i64 f, .int .i64 t, .slice A n ca, .slice none 0 0], .agg #[.int .i64 i', .int .i64 0, .int .i64 f', .int .i64 t', .slice B n cb, .slice none 0 0]] u.w
      fun e w' => e = .returned (.bool E) ∧ Below u.w.heap.size u.w w') := Lib.hid (fun u => MS.out u.w (HX8.out u.w u.le).1 (HX8.out u.w u.le).2.2.1)
  have HBW : Hid (Below w.heap.size w w8) := Lib.hid HX8.out.now.2.2.2.2.2
  clear HX8 HR8 HQ8 HI8 MS hU hU0 hx hx0 hx1 hy hy0 hy1 k1 k2 k3 k4
  refine wp_region_calm (by kernel_rfl) (by kernel_rfl) ?_
  (try simp only [List.append])
  repeat (go_big_quiet_step ((first | (go_at_call 9; exact calm_call (MT.out _)) | (go_at_call 13; exact calm_call (MU.out _)))))
  refine wpQuiet_nil ?_
  rintro _ ⟨u, rfl⟩
  go_wp2
  go_ret
  exact ⟨rfl, past HBW.out u.le⟩
end Go.Proofs.YtepancmkopifpaaDoor.segmentInfos
