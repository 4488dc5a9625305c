/-
  The walk of SegmentBack: it returns true, and writes nothing that was there.
-/
import Derived.Test.YtepancmkopifpaaDoorMLaw
import Derived.Deep.DeepCutAuto
import Derived.Laws.BitsAllLaws
set_option maxRecDepth 100000
namespace Go.Proofs.YtepancmkopifpaaDoor.segmentBack
open Go.RowKit
attribute [local go_sem ↓] Go.wp_at_zero Go.wp_at_succ
set_option linter.unusedVariables false

theorem fits_u8 {a : Int} (h : (Lit.int .u8 a).wf = true) : 0 ≤ a ∧ a ≤ 255 := by
  simpa [Lit.wf, IntKind.min, IntKind.max, IntKind.bits, IntKind.signed] using h
theorem xor_self {a c : Nat} (h : a ^^^ c = a) : c = 0 := by
  have h2 : a ^^^ (a ^^^ c) = a ^^^ a := by rw [h]
  rw [← Nat.xor_assoc, Nat.xor_self, Nat.zero_xor] at h2
  exact h2
theorem own_empty (w : World) : (w.alloc (.cells #[] 5)).ownsRow w.heap.size 5 1 (.slice (some ⟨w.heap.size, 0, none⟩) 0 0) 0 (bytesV []) :=
  World.ownsRow_lit (size := 1) (e := 5) w #[] 0 (Nat.le_refl _) (Nat.zero_le _) rfl
theorem brow_lit (w : World) (c : Nat) (hc : c < 256) : BRow (w.alloc (.cells #[.int .u8 (c : Int)] 5)) (some ⟨w.heap.size, 0, none⟩) 1 1 [c] :=
  BRow.of_own (World.ownsRow_lit (base := w.heap.size) (size := 1) (e := 5) w #[.int .u8 (c : Int)] 1 (Nat.le_refl _) (by unfold maxLen; omega) rfl) (fun x hx => by
    obtain rfl : x = c := by simpa using hx
    exact hc)
theorem bytesV_set (b : List Nat) (k z : Nat) : (bytesV b).set k (.int .u8 (z : Int)) = bytesV (b.set k z) := by
  unfold bytesV
  rw [List.map_set]

set_option maxHeartbeats 1000000 in
theorem walk (a0 a1 : Int) (a2 : Option Addr) (len2 cap2 : Nat) (l2 : List Int) (a3 : Option Addr) (len3 cap3 : Nat) (l3 : List Int) (a4 a5 : Int) (w : World) (w0 : (Lit.int .i64 a0).wf = true) (w1 : (Lit.int .i64 a1).wf = true) (s2 : Ints w a2 len2 cap2 l2) (z2 : len2 * 8 ≤ 140737488351232) (s3 : Ints w a3 len3 cap3 l3) (w4 : (Lit.int .i64 a4).wf = true) (w5 : (Lit.int .u8 a5).wf = true) (hw : Wid w) :
    Calls Tryd.prog 4 #[.int .i64 a0, .int .i64 a1, .slice a2 len2 cap2, .slice a3 len3 cap3, .int .i64 a4, .int .u8 a5] w fun e w' => e = .returned (.bool true) ∧ Below w.heap.size w w' := by
  have ha := fits_i64 w0
  obtain ⟨U, hU⟩ : ∃ U, IntKind.u64.wrap a1 = U := ⟨_, rfl⟩
  have hU0 : 0 ≤ U := by rw [← hU, IntKind.wrap_u64]; omega
  obtain ⟨x, hx, hx0, hx1⟩ : ∃ x : Int, U.tmod 100000 = x ∧ 0 ≤ x ∧ x < 100000 := ⟨_, rfl, Int.tmod_nonneg 100000 hU0, Int.tmod_lt_of_pos _ (by decide)⟩
  have k1 : IntKind.u64.wrap x = x := by rw [IntKind.wrap_u64]; omega
  have k2 : IntKind.i64.wrap x = x := by rw [IntKind.wrap_i64]; omega
  obtain ⟨n, hn⟩ : ∃ n, mkN len2 = n := ⟨_, rfl⟩
  have MA : Hid (Calls Tryd.prog 11 #[.int .i64 a0, .int .i64 x, .slice a2 len2 cap2, .slice a3 len3 cap3] w (MakeG w (mkS a0 x l2 l3 len2 len3) n)) := Lib.hid (by rw [← hn]; exact make_any ha (by omega) s2 s3 z2)
  have HW := Lib.hid hw
  have HA4 := Lib.hid w4
  have HA5 := Lib.hid w5
  clear ha s2 s3 z2 w0 w1 hn hw w4 w5
  generalize mkS a0 x l2 l3 len2 len3 = S at *
  go_enter Tryd.func4, Tryd.ntmps4
  go_wp2_with fail
  refine MA.out.mono ?_
  rintro e w2 ⟨A, ca, rfl, hs, hr, hb⟩
  obtain ⟨i, f, t, sm, rfl⟩ := raw0_parts hr
  go_upto_region 2 with fail
  have HX2 : Hid (Later (w2.alloc (.cells #[.int .i64 i, .int .i64 0, .int .i64 f, .int .i64 t, .slice A n ca, .slice none 0 0] 26)) fun u => SegAt u ⟨i, 0, f, t, sm, []⟩ A n ca none 0 0 ∧ SgV u w2.heap.size i 0 f t (.slice A n ca) (.slice none 0 0) ∧ Wid u ∧ Below w.heap.size w u) := Lib.hid (fun u hu => by
    have hb2 : Below w2.heap.size w2 u := past (below_box _ _) hu
    exact ⟨hs.below hb2, (SgV.new w2 i 0 f t (.slice A n ca) (.slice none 0 0) 26).below hu, HW.out.below (past hb hb2), past hb hb2⟩)
  have HR := Lib.hid hr
  clear hs hr hb MA hU hU0 hx hx0 hx1 k1 k2
  generalize (w2.alloc (.cells #[.int .i64 i, .int .i64 0, .int .i64 f, .int .i64 t, .slice A n ca, .slice none 0 0] 26)) = w2 at *
  generalize w2.heap.size = g at *
  have hfile := tier0_file HR.out.may HX2.out.now.1.ok rfl
  have hbt := bytes_byte ⟨i, 0, f, t, sm, []⟩
  have MP : Hid (∀ u, SegAt u ⟨i, 0, f, t, sm, []⟩ A n ca none 0 0 → Wid u → Calls Tryd.prog 8 #[.agg #[.int .i64 i, .int .i64 0, .int .i64 f, .int .i64 t, .slice A n ca, .slice none 0 0]] u fun e w' => ∃ AV cap, e = .returned (.tuple #[.slice AV (Sg.bytes ⟨i, 0, f, t, sm, []⟩).length cap, .int .i64 0]) ∧ BRow w' AV (Sg.bytes ⟨i, 0, f, t, sm, []⟩).length cap (Sg.bytes ⟨i, 0, f, t, sm, []⟩) ∧ Below u.heap.size u w') := Lib.hid (fun u h hw => putG_ok h hw HR.out.may)
  have hlen0 : 1 ≤ (Sg.bytes ⟨i, 0, f, t, sm, []⟩).length ∧ (Sg.bytes ⟨i, 0, f, t, sm, []⟩).length ≤ 1336 := ⟨by rw [bytes_len]; omega, tier0_len HR.out.may HX2.out.now.1.ok rfl⟩
  generalize Sg.bytes ⟨i, 0, f, t, sm, []⟩ = b at *
  obtain ⟨nb, hnb⟩ : ∃ nb, b.length = nb := ⟨_, rfl⟩
  rw [hnb] at MP hlen0
  have HF := Lib.hid hfile
  have HBT := Lib.hid hbt
  have HNB := Lib.hid hnb
  clear hfile hbt hnb
  obtain ⟨c0, c1, c2, c3, c4, c5, _⟩ := HX2.out.now.2.1
  go_wp2_with fail
  refine (MP.out _ HX2.out.now.1 HX2.out.now.2.2.1).mono ?_
  rintro e w3 ⟨V1, cp1, rfl, hr, hb⟩
  have HX3 := Lib.hid (HX2.out.on hb)
  have HR3 : Hid (Later w3 fun u => BRow u V1 nb cp1 b) := Lib.hid (fun u hu => hr.below hu)
  clear c0 c1 c2 c3 c4 c5 hr hb HX2 MP
  go_wp2_with fail
  refine (getG_ok HR3.out.now HF.out HBT.out HX3.out.now.2.2.1).mono ?_
  rintro e w4 ⟨A4, n4, ca4, B4, m4, cb4, rfl, hs, hb⟩
  go_upto_region 4 with fail
  have hb5 : Below w4.heap.size w4 (w4.alloc (.cells #[.int .i64 i, .int .i64 0, .int .i64 f, .int .i64 t, .slice A4 n4 ca4, .slice B4 m4 cb4] 26)) := below_box _ _
  have HX5 := Lib.hid ((HX3.out.on hb).on hb5)
  have HR5 := Lib.hid ((HR3.out.on hb).on hb5)
  have HY5 : Hid (Later (w4.alloc (.cells #[.int .i64 i, .int .i64 0, .int .i64 f, .int .i64 t, .slice A4 n4 ca4, .slice B4 m4 cb4] 26)) fun u => SegAt u ⟨i, 0, f, t, sm, []⟩ A4 n4 ca4 B4 m4 cb4 ∧ SgV u w4.heap.size i 0 f t (.slice A4 n4 ca4) (.slice B4 m4 cb4)) := Lib.hid (fun u hu => ⟨hs.below (past hb5 hu), (SgV.new w4 i 0 f t (.slice A4 n4 ca4) (.slice B4 m4 cb4) 26).below hu⟩)
  clear hs hb hb5 HX3 HR3
  generalize (w4.alloc (.cells #[.int .i64 i, .int .i64 0, .int .i64 f, .int .i64 t, .slice A4 n4 ca4, .slice B4 m4 cb4] 26)) = w5 at *
  generalize w4.heap.size = g4 at *
  obtain ⟨c0, c1, c2, c3, c4, c5, _⟩ := HX5.out.now.2.1
  obtain ⟨d0, d1, d2, d3, d4, d5, _⟩ := HY5.out.now.2
  go_wp2_with fail
  refine (sameG_eq HY5.out.now.1 HX5.out.now.1).mono ?_
  rintro e w6 ⟨rfl, hb⟩
  have HX6 := Lib.hid (HX5.out.on hb)
  have HR6 := Lib.hid (HR5.out.on hb)
  clear hb HX5 HR5 HY5 c0 c1 c2 c3 c4 c5 d0 d1 d2 d3 d4 d5
  have i1 : ¬ (nb : Int) = 0 := by omega
  go_upto_region 6 with fail
  obtain ⟨U4, hU4⟩ : ∃ U, IntKind.u64.wrap a4 = U := ⟨_, rfl⟩
  have hU40 : 0 ≤ U4 := by rw [← hU4, IntKind.wrap_u64]; omega
  obtain ⟨y, hy, hy0, hy1⟩ : ∃ y : Int, U4.tmod (nb : Int) = y ∧ 0 ≤ y ∧ y < (nb : Int) := ⟨_, rfl, Int.tmod_nonneg _ hU40, Int.tmod_lt_of_pos _ (by omega)⟩
  obtain ⟨k, rfl⟩ : ∃ k : Nat, y = (k : Int) := ⟨y.toNat, by omega⟩
  have k1 : IntKind.u64.wrap (nb : Int) = (nb : Int) := by rw [IntKind.wrap_u64]; omega
  have k2 : IntKind.u64.wrap (k : Int) = (k : Int) := by rw [IntKind.wrap_u64]; omega
  have k3 : IntKind.i64.wrap (k : Int) = (k : Int) := by rw [IntKind.wrap_i64]; omega
  have hkn : k < nb := by omega
  obtain ⟨bb, bo, hV, hcells⟩ := HR6.out.now.bytes.at_ (by rw [HNB.out]; omega)
  subst hV
  have hcap := HR6.out.now.le
  have hs1 := fun w => sliceB_hi (A := some ⟨bb, bo, none⟩) (n := nb) (k := k) (cap := cp1) (by omega) w
  clear hU40 hcells
  go_wp2_with fail
  have hcut : ∀ s, ¬ IsFile (b.take k) s := fun s => file_cut HF.out (by rw [HNB.out]; exact hkn)
  refine (getG_not (HR6.out.now.take (show k ≤ nb by omega)) hcut (fun c hc => HBT.out c (List.mem_of_mem_take hc)) HX6.out.now.2.2.1).mono ?_
  rintro e w7 ⟨rfl, hb⟩
  clear hcut hs1
  go_upto_region 8 with fail
  have hb8 : Below w7.heap.size w7 (w7.alloc (.cells #[.int .i64 0, .int .i64 0, .int .i64 0, .int .i64 0, .slice none 0 0, .slice none 0 0] 26)) := below_box _ _
  have HX8 := Lib.hid ((HX6.out.on hb).on hb8)
  have HR8 := Lib.hid ((HR6.out.on hb).on hb8)
  clear hb hb8 HX6 HR6
  generalize (w7.alloc (.cells #[.int .i64 0, .int .i64 0, .int .i64 0, .int .i64 0, .slice none 0 0, .slice none 0 0] 26)) = w8 at *
  generalize w7.heap.size = g7 at *
  obtain ⟨c, hc5, hc256⟩ : ∃ c : Nat, a5 = (c : Int) ∧ c < 256 := by
    have := fits_u8 HA5.out
    exact ⟨a5.toNat, by omega, by omega⟩
  subst hc5
  have hbr8 : BRow (w8.alloc (.cells #[] 5)) (some ⟨bb, bo, none⟩) nb cp1 b := HR8.out _ (below_box _ _)
  have HO8 := Lib.hid (own_empty w8)
  go_wp2_with (at_builtin; refine wpList_append_brow rfl _ _ rfl w8.heap.size _ 0 nb [] b rfl HO8.out (some ⟨bb, bo, none⟩) cp1 rfl hbr8 ?c1 ?c2 ?_)
  case c1 => omega
  case c2 => simp
  intro v9 w9 hown hg
  have hb9 : Below w8.heap.size w8 w9 := (past_alloc (Below.refl _ _) _).grown hg (by simp) (fun k e => by
    simp only [Value.ownBlock, Option.some.injEq] at e
    omega)
  have HO9 : Hid (w9.ownsRow w8.heap.size 5 1 v9 nb (bytesV b)) := Lib.hid hown
  have HB9 := Lib.hid hb9
  clear hown hg hb9 hbr8 HO8
  have HOL : Hid ((w9.alloc (.cells #[.int .u8 (c : Int)] 5)).ownsRow w8.heap.size 5 1 v9 nb (bytesV b)) := Lib.hid (HO9.out.alloc _)
  have hlit := brow_lit w9 c hc256
  go_wp2_with (at_builtin; refine wpList_append_brow rfl _ _ rfl w8.heap.size v9 nb 1 b [c] rfl HOL.out _ _ rfl hlit ?c1 ?c2 ?_)
  case c1 => omega
  case c2 => have := HB9.out.size; simp; omega
  intro v10 w10 hown hg
  have hb10 : Below w8.heap.size w8 w10 := (past_alloc HB9.out _).grown hg (by have := HB9.out.size; simp; omega) (fun k e => (HO9.out.lt k e).1)
  have HX10 := Lib.hid (HX8.out.on hb10)
  have HR10 := Lib.hid (HR8.out.on hb10)
  obtain ⟨V10, cp10, rfl, hr10, _⟩ := brow_of_own hown (fun d hd => by
    rcases List.mem_append.1 hd with hd | hd
    · exact HBT.out d hd
    · obtain rfl : d = c := by simpa using hd
      exact hc256)
  have HV10 := Lib.hid hr10
  clear hown hg hb10 hlit HOL HO9 HB9 HX8 HR8 hr10
  go_wp2_with fail
  refine (getG_not HV10.out (fun s => file_behind HF.out (by simp)) (fun d hd => by
    rcases List.mem_append.1 hd with hd | hd
    · exact HBT.out d hd
    · obtain rfl : d = c := by simpa using hd
      exact hc256) HX10.out.now.2.2.1).mono ?_
  rintro e w11 ⟨rfl, hb⟩
  clear HV10
  go_upto_region 9 with fail
  have hb12 : Below w11.heap.size w11 (w11.alloc (.cells #[.int .i64 0, .int .i64 0, .int .i64 0, .int .i64 0, .slice none 0 0, .slice none 0 0] 26)) := below_box _ _
  have HX12 := Lib.hid ((HX10.out.on hb).on hb12)
  have HR12 := Lib.hid ((HR10.out.on hb).on hb12)
  clear hb hb12 HX10 HR10
  generalize (w11.alloc (.cells #[.int .i64 0, .int .i64 0, .int .i64 0, .int .i64 0, .slice none 0 0, .slice none 0 0] 26)) = w12 at *
  generalize w11.heap.size = g11 at *
  have hbr12 : BRow (w12.alloc (.cells #[] 5)) (some ⟨bb, bo, none⟩) nb cp1 b := HR12.out _ (below_box _ _)
  have HO12 := Lib.hid (own_empty w12)
  go_wp2_with (at_builtin; refine wpList_append_brow rfl _ _ rfl w12.heap.size _ 0 nb [] b rfl HO12.out (some ⟨bb, bo, none⟩) cp1 rfl hbr12 ?c1 ?c2 ?_)
  case c1 => omega
  case c2 => simp
  intro v13 w13 hown hg
  have hb13 : Below w12.heap.size w12 w13 := (past_alloc (Below.refl _ _) _).grown hg (by simp) (fun k e => by
    simp only [Value.ownBlock, Option.some.injEq] at e
    omega)
  have hown2 : w13.ownsRow w12.heap.size 5 1 v13 nb (bytesV b) := hown
  obtain ⟨gc, cc, rfl, hgc, hgl⟩ := hown2.form (by omega)
  have hcell := hown2.cellAt k (by omega)
  have hfz := hown2.frozenAt k
  have hkb : k < b.length := by rw [HNB.out]; exact hkn
  have hgt : (bytesV b)[k]? = some (.int .u8 ((b.getD k 0 : Nat) : Int)) := by
    unfold bytesV
    rw [List.getElem?_map, List.getElem?_eq_getElem hkb, List.getD_eq_getElem?_getD, List.getElem?_eq_getElem hkb]
    rfl
  rw [hgt] at hcell
  have hd256 : b.getD k 0 < 256 := HBT.out _ (by
    rw [List.getD_eq_getElem?_getD, List.getElem?_eq_getElem hkb]
    exact List.getElem_mem _)
  obtain ⟨d, hd⟩ : ∃ d, b.getD k 0 = d := ⟨_, rfl⟩
  rw [hd] at hcell hd256
  have hxor := u8_xor_nat d c hd256 hc256
  have hz256 : d ^^^ c < 256 := by
    have : d ^^^ c < 2 ^ 8 := Nat.xor_lt_two_pow (by omega) (by omega)
    omega
  have hst := (hown2.stored k (.int .u8 ((d ^^^ c : Nat) : Int))).1
  rw [bytesV_set] at hst
  have hbs : Below w12.heap.size w12 (w13.setCell ⟨gc, k, none⟩ (.int .u8 ((d ^^^ c : Nat) : Int))) := hb13.setCell hgc _
  obtain ⟨z, hz⟩ : ∃ z, d ^^^ c = z := ⟨_, rfl⟩
  rw [hz] at hxor hst hbs hz256
  have HST := Lib.hid hst
  have HX14 := Lib.hid (HX12.out.on hbs)
  have HD := Lib.hid hd
  have HZ := Lib.hid hz
  have i2 : (k : Int) < (nb : Int) := by omega
  clear hown hown2 hg hb13 hst hbs hgt hkb hd hz hbr12 HO12 HX12 HR12
  go_upto_region 11 with fail
  have hbr : BRow (w13.setCell ⟨gc, k, none⟩ (.int .u8 (z : Int))) (some ⟨gc, 0, none⟩) nb cc (b.set k z) := BRow.of_own HST.out (fun x hx => by
    rcases List.mem_or_eq_of_mem_set hx with hx | rfl
    · exact HBT.out x hx
    · exact hz256)
  have hset256 : ∀ x ∈ b.set k z, x < 256 := fun x hx => by
    rcases List.mem_or_eq_of_mem_set hx with hx | rfl
    · exact HBT.out x hx
    · exact hz256
  by_cases hc0 : c = 0
  · have hzd : z = d := by rw [← HZ.out, hc0, Nat.xor_zero]
    have hsame : b.set k z = b := by
      rw [hzd, ← HD.out]
      exact List.ext_getElem (by simp) (fun j h1 h2 => by
        rw [List.getElem_set]
        split
        · next e => subst e; rw [List.getD_eq_getElem?_getD, List.getElem?_eq_getElem h2]; rfl
        · rfl)
    rw [hsame] at hbr
    have M15 := Lib.hid (getG_ok hbr HF.out HBT.out HX14.out.now.2.2.1)
    have HC0 := Lib.hid hc0
    clear hbr hset256 hc0 hzd hsame hcell hfz hxor HST
    go_wp2_with fail
    refine M15.out.mono ?_
    rintro e w15 ⟨A5, n5, ca5, B5, m5, cb5, rfl, _, hb⟩
    go_upto_region 12 with fail
    have hb16 : Below w15.heap.size w15 (w15.alloc (.cells #[.int .i64 i, .int .i64 0, .int .i64 f, .int .i64 t, .slice A5 n5 ca5, .slice B5 m5 cb5] 26)) := below_box _ _
    have HX16 := Lib.hid ((HX14.out.on hb).on hb16)
    clear hb hb16 HX14 M15
    generalize (w15.alloc (.cells #[.int .i64 i, .int .i64 0, .int .i64 f, .int .i64 t, .slice A5 n5 ca5, .slice B5 m5 cb5] 26)) = w16 at *
    obtain rfl : c = 0 := HC0.out
    go_wp2_with fail
    refine (told_any _ HX16.out.now.2.2.1).mono ?_
    rintro e w17 ⟨rfl, hb⟩
    have HB17 := Lib.hid (past HX16.out.now.2.2.2 hb)
    clear hb HX16
    go_wp2
    go_ret
    exact ⟨rfl, HB17.out⟩
  · have hzd : z ≠ d := fun e => hc0 (xor_self (a := d) (by rw [HZ.out, e]))
    have M15 := Lib.hid (getG_not hbr (fun s => file_turned HF.out (by rw [HNB.out]; exact hkn) hz256 (by rw [HD.out]; exact hzd)) hset256 HX14.out.now.2.2.1)
    have i3 : ((c : Int) != 0) = true := by simp; omega
    clear hbr hset256 hc0 hzd hcell hfz hxor HST
    go_wp2_with fail
    refine M15.out.mono ?_
    rintro e w15 ⟨rfl, hb⟩
    go_upto_region 12 with fail
    have hb16 : Below w15.heap.size w15 (w15.alloc (.cells #[.int .i64 0, .int .i64 0, .int .i64 0, .int .i64 0, .slice none 0 0, .slice none 0 0] 26)) := below_box _ _
    have HX16 := Lib.hid ((HX14.out.on hb).on hb16)
    clear hb hb16 HX14 M15
    generalize (w15.alloc (.cells #[.int .i64 0, .int .i64 0, .int .i64 0, .int .i64 0, .slice none 0 0, .slice none 0 0] 26)) = w16 at *
    go_wp2_with fail
    refine (told_any _ HX16.out.now.2.2.1).mono ?_
    rintro e w17 ⟨rfl, hb⟩
    have HB17 := Lib.hid (past HX16.out.now.2.2.2 hb)
    clear hb HX16
    go_wp2
    go_ret
    exact ⟨by first | rfl | (rw [i3]; rfl), HB17.out⟩
end Go.Proofs.YtepancmkopifpaaDoor.segmentBack
