/-
  The walk of LogTurned: it returns true, and writes nothing that was there.
-/
import Derived.Test.YtdpoahjgdndnhaaDoorLAllO
import Derived.Laws.BitsAllLaws
set_option maxRecDepth 100000
namespace Go.Proofs.YtdpoahjgdndnhaaDoor
open Go.RowKit
attribute [local go_sem ↓] Go.wp_at_zero Go.wp_at_succ
set_option linter.unusedVariables false

theorem xor_byte : ∀ x t : Fin 256, x.val ^^^ t.val < 256 ∧ (t.val ≠ 0 → x.val ^^^ t.val ≠ x.val) := by decide +kernel
theorem frm_head (bs : List Nat) (h : bs.length < 16384) : (bs.length < 128 ∧ (frm bs).getD 0 0 = bs.length ∧ (enc bs.length).length = 1) ∨ (128 ≤ bs.length ∧ (frm bs).getD 0 0 = bs.length % 128 + 128 ∧ (enc bs.length).length = 2) := by
  by_cases h1 : bs.length < 128
  · left
    refine ⟨h1, ?_, by rw [enc_small h1]; rfl⟩
    unfold frm
    rw [enc_small h1]
    rfl
  · right
    refine ⟨by omega, ?_, by rw [enc_big (by omega), enc_small (by omega)]; rfl⟩
    unfold frm
    rw [enc_big (by omega)]
    rfl
set_option maxHeartbeats 8000000 in
theorem walk_turned (HT : Hid ToldL) {A : Option Addr} {n ca : Nat} {l : List Int} (c1 c2 : Int) (t : Nat) (ht : t < 256) {w : World} (h1 : Ints w A n ca l) (hw : Nam w) (h0 : 0 < w.heap.size) :
    Calls Tryd.prog 9 #[.slice A n ca, .int .i64 c1, .int .i64 c2, .int .u8 (t : Int)] w fun e w' => e = .returned (.bool true) ∧ Below w.heap.size w w' := by
  have HX : Hid (Later w fun u => NB w u) := Lib.hid (fun u hu => ⟨hw.below h0 hu, Nat.lt_of_lt_of_le h0 hu.size, hu⟩)
  have M1 := Lib.hid (rows_any h1)
  obtain ⟨LA, hLA⟩ : ∃ LA, LA = rowsOf (l.map natI) := ⟨_, rfl⟩
  have hrf := rows_facts l
  rw [← hLA] at M1 hrf
  obtain ⟨na, hna⟩ : ∃ na, na = LA.length := ⟨_, rfl⟩
  unfold RowsPost at M1
  rw [← hna] at M1 hrf
  obtain ⟨hla, hmay⟩ := hrf
  have HNA := Lib.hid hna
  have HMAY := Lib.hid hmay
  have hbd := allB_bound hmay
  rw [← hna] at hbd
  clear h1 hw h0 hLA hna hmay
  go_enter Tryd.func9, Tryd.ntmps9
  go_wp2_with fail
  refine M1.out.mono ?_
  rintro en w2 ⟨A2, c2_, rfl, hr, hb⟩
  have HX2 := Lib.hid (HX.out.on hb)
  have HA2 : Hid (Later w2 fun u => EntRow u A2 na c2_ LA) := Lib.hid (fun u hu => hr.below hu)
  have hca := hr.le
  clear hr hb HX M1
  by_cases hz : na = 0 ∨ t = 0
  · rcases hz with rfl | rfl
    · go_wp2_with fail
      refine (HT.out _ HX2.out.now.nam HX2.out.now.pos).mono ?_
      rintro en w3 ⟨rfl, hb⟩
      have HB := Lib.hid (past HX2.out.now.below hb)
      clear hb HX2
      go_wp2
      go_ret
      exact ⟨rfl, HB.out⟩
    · have z1 : ((na : Int) == 0) = false ∨ ((na : Int) == 0) = true := by cases ((na : Int) == 0) <;> simp
      by_cases hna0 : na = 0
      · subst hna0
        go_wp2_with fail
        refine (HT.out _ HX2.out.now.nam HX2.out.now.pos).mono ?_
        rintro en w3 ⟨rfl, hb⟩
        have HB := Lib.hid (past HX2.out.now.below hb)
        clear hb HX2
        go_wp2
        go_ret
        exact ⟨rfl, HB.out⟩
      · have z2 : ((na : Int) == 0) = false := by simp; omega
        have z3 : ¬ (na : Int) = 0 := by omega
        clear z1 hna0
        go_wp2_with fail
        refine (HT.out _ HX2.out.now.nam HX2.out.now.pos).mono ?_
        rintro en w3 ⟨rfl, hb⟩
        have HB := Lib.hid (past HX2.out.now.below hb)
        clear hb HX2
        go_wp2
        go_ret
        exact ⟨rfl, HB.out⟩
  have z2 : ((na : Int) == 0) = false := by simp; omega
  have z3 : ¬ (na : Int) = 0 := by omega
  have z4 : ((t : Int) == 0) = false := by simp; omega
  have z5 : ¬ (t : Int) = 0 := by omega
  have j2 : IntKind.u64.wrap (na : Int) = (na : Int) := by rw [IntKind.wrap_u64]; omega
  obtain ⟨U, hU⟩ : ∃ U, IntKind.u64.wrap c1 = U := ⟨_, rfl⟩
  have hU0 : 0 ≤ U := by rw [← hU, IntKind.wrap_u64]; omega
  obtain ⟨y, hy, hy0, hy1⟩ : ∃ y : Int, U.tmod (na : Int) = y ∧ 0 ≤ y ∧ y < (na : Int) := ⟨_, rfl, Int.tmod_nonneg _ hU0, Int.tmod_lt_of_pos _ (by omega)⟩
  obtain ⟨k, rfl⟩ : ∃ k : Nat, y = (k : Int) := ⟨y.toNat, by omega⟩
  have j3 : IntKind.i64.wrap (k : Int) = (k : Int) := by rw [IntKind.wrap_i64]; omega
  have hkn : k < na := by omega
  have HTZ : Hid (t ≠ 0) := Lib.hid (fun h => hz (.inr h))
  clear hU0 hy0 hy1 hz
  go_upto_region 5 with fail
  clear hy hU j2 j3 z2 z3 z4 z5
  have hs := fun w => sliceE_hi (A := A2) (n := na) (k := k) (cap := c2_) (by omega) w
  have M := all_may (HA2.out.now.take (show k ≤ na by omega)) (may_take HMAY.out k) (by omega) HX2.out.now.nam HX2.out.now.pos
  obtain ⟨P, hP⟩ : ∃ P, P = (allB (LA.take k)).length := ⟨_, rfl⟩
  rw [← hP] at M
  have HP := Lib.hid hP
  have HM := Lib.hid M
  clear M hP
  go_wp2_with fail
  refine HM.out.mono ?_
  rintro en w3 ⟨V3, c3, rfl, hr, hb, _⟩
  have HX3 := Lib.hid (HX2.out.on hb)
  have HA3 := Lib.hid (HA2.out.on hb)
  clear hr hb HX2 HA2 HM hs
  obtain ⟨e, he⟩ : ∃ e, LA.getD k Ent.zero = e := ⟨_, rfl⟩
  have hem := may_at HMAY.out (j := k) (by rw [← HNA.out]; exact hkn)
  rw [he] at hem
  obtain ⟨x, off, hA, _, hcs⟩ := HA3.out.now.cells (by omega)
  obtain ⟨q0, q1, q2, q3, q4, q5, q6, q7⟩ := hcs k hkn
  rw [he] at q0 q1 q2 q3 q4 q5 q6 q7
  subst hA
  unfold str at q7
  have i0 : (0 : Int) ≤ (k : Int) := by omega
  have i1 : (k : Int) < (na : Int) := by omega
  have M := frame_ent e w3 hem.2 HX3.out.now.nam HX3.out.now.pos
  rw [frame_ok hem.1] at M
  unfold PutEPost Ent.val str at M
  simp only at M
  obtain ⟨F, hF⟩ : ∃ F, F = (frm e.bytes).length := ⟨_, rfl⟩
  rw [← hF] at M
  have HM := Lib.hid M
  have hbl := bytes_len e
  have hbs := bytes_short hem.1 hem.2
  have hfl := frm_len e.bytes
  have hsum : P + F ≤ (allB LA).length := by
    have hle := allB_take LA (k + 1)
    rw [allB_snoc (by rw [← HNA.out]; exact hkn), he, List.length_append, ← HP.out, ← hF] at hle
    exact hle
  have HE := Lib.hid he
  have HEM := Lib.hid hem
  have HF := Lib.hid hF
  have HHD := Lib.hid (frm_head e.bytes (by omega))
  have hel := enc_ne e.bytes.length
  rw [← hF] at hfl
  have hF6 : 6 ≤ F := by omega
  have hF414 : F ≤ 414 := by rw [hF]; exact frm_le hem.1 hem.2
  clear M he hF hcs hem hbl hbs hfl hel
  go_wp2_with fail
  refine HM.out.mono ?_
  rintro en w4 ⟨V4, c4, rfl, hr, hb, _⟩
  have HX4 := Lib.hid (HX3.out.on hb)
  have HA4 := Lib.hid (HA3.out.on hb)
  have HF4 : Hid (Later w4 fun u => BRow u V4 F c4 (frm e.bytes)) := Lib.hid (fun u hu => hr.below hu)
  clear hr hb HX3 HA3 HM q0 q1 q2 q3 q4 q5 q6 q7
  have M := all_own HA4.out.now (by omega) HX4.out.now.nam HX4.out.now.pos
  rw [allE_ok HMAY.out (by rw [← HNA.out]; omega)] at M
  obtain ⟨N, hN⟩ : ∃ N, N = (allB LA).length := ⟨_, rfl⟩
  unfold AllPost at M
  simp only at M
  rw [← hN] at M hbd hsum
  have HN := Lib.hid hN
  have HM := Lib.hid M
  clear M hN
  go_wp2_with fail
  refine HM.out.mono ?_
  rintro en w5 ⟨v5, rfl, hown, hby, hb⟩
  obtain ⟨g, cg, rfl, hgb, hgl⟩ := hown.form (by omega)
  have HO5 := Lib.hid hown
  have HBY := Lib.hid hby
  have HB5 := Lib.hid hb
  have hfb := (HF4.out _ hb)
  obtain ⟨fb, fo, hV4, hfc⟩ := hfb.bytes.at_ (by rw [hfb.len]; omega)
  subst hV4
  have f0 := hfc 0 (by rw [hfb.len]; omega)
  rw [Nat.add_zero] at f0
  have g1 : ¬ (F : Int) < 6 := by omega
  have g2 : (0 : Int) < (F : Int) := by omega
  have HGB : Hid (w4.heap.size ≤ g ∧ g < w5.heap.size) := Lib.hid ⟨hgb, hgl⟩
  clear hown hby hb HM hfb hfc HF4 hgb hgl
  rcases HHD.out with ⟨hL, hh, hen⟩ | ⟨hL, hh, hen⟩
  · rw [hh] at f0
    obtain ⟨f, hf⟩ : ∃ f : Nat, f = e.bytes.length := ⟨_, rfl⟩
    rw [← hf] at f0
    have g3 : ¬ (f : Int) ≥ 128 := by omega
    have HEN : Hid ((enc e.bytes.length).length = 1) := Lib.hid hen
    clear hf hh hL hen HHD
    obtain ⟨d, hd⟩ : ∃ d : Nat, d = F - 1 := ⟨_, rfl⟩
    obtain ⟨pn, hpn⟩ : ∃ pn : Nat, pn = P + 1 := ⟨_, rfl⟩
    have j1 : IntKind.i64.wrap ((P : Int) + 1) = (pn : Int) := by rw [IntKind.wrap_i64]; omega
    have j2 : IntKind.i64.wrap ((F : Int) - 1) = (d : Int) := by rw [IntKind.wrap_i64]; omega
    have j3 : IntKind.u64.wrap (d : Int) = (d : Int) := by rw [IntKind.wrap_u64]; omega
    obtain ⟨U, hU⟩ : ∃ U, IntKind.u64.wrap c2 = U := ⟨_, rfl⟩
    have hU0 : 0 ≤ U := by rw [← hU, IntKind.wrap_u64]; omega
    obtain ⟨y, hy, hy0, hy1⟩ : ∃ y : Int, U.tmod (d : Int) = y ∧ 0 ≤ y ∧ y < (d : Int) := ⟨_, rfl, Int.tmod_nonneg _ hU0, Int.tmod_lt_of_pos _ (by omega)⟩
    obtain ⟨r, rfl⟩ : ∃ r : Nat, y = (r : Int) := ⟨y.toNat, by omega⟩
    have j4 : IntKind.i64.wrap (r : Int) = (r : Int) := by rw [IntKind.wrap_i64]; omega
    obtain ⟨J, hJ⟩ : ∃ J : Nat, J = pn + r := ⟨_, rfl⟩
    have j5 : IntKind.i64.wrap ((pn : Int) + (r : Int)) = (J : Int) := by rw [IntKind.wrap_i64]; omega
    have j6 : ¬ (d : Int) = 0 := by omega
    have hJN : J < N := by omega
    have j7 : ¬ (J : Int) ≥ (N : Int) := by omega
    have HJ : Hid (J = P + (1 + r) ∧ 1 + r < F) := Lib.hid ⟨by omega, by omega⟩
    have j8 : (0 : Int) ≤ (J : Int) := by omega
    have j9 : (J : Int) < (N : Int) := by omega
    clear hd hpn hU0 hy0 hy1 hJ
    have hcell := HO5.out.cellAt J (by omega)
    have hfz := HO5.out.frozenAt J
    have hlen : J < (allB LA).length := by rw [← HN.out]; exact hJN
    have hgt := bytesV_get (allB LA) J hlen
    rw [hgt] at hcell
    obtain ⟨xv, hxv⟩ : ∃ xv, xv = (allB LA).getD J 0 := ⟨_, rfl⟩
    rw [← hxv] at hcell
    have hxb : xv < 256 := by rw [hxv]; exact HBY.out _ (by rw [List.getD_eq_getElem?_getD, List.getElem?_eq_getElem hlen]; exact List.getElem_mem hlen)
    obtain ⟨v, hv⟩ : ∃ v : Nat, v = xv ^^^ t := ⟨_, rfl⟩
    have hxr : bits .xor .u8 (xv : Int) (t : Int) = (v : Int) := by rw [hv]; exact u8_xor_nat xv t hxb ht
    have hv2 := xor_byte ⟨xv, hxb⟩ ⟨t, ht⟩
    simp only at hv2
    rw [← hv] at hv2
    have HV : Hid (v < 256 ∧ v ≠ xv) := Lib.hid ⟨hv2.1, hv2.2 HTZ.out⟩
    have HXV := Lib.hid hxv
    clear hgt hlen hxv hv hv2 hxb
    go_upto_region 17 with fail
    clear j1 j2 j3 hU hy j4 j5 j6 j7 f0 g1 g2 g3 hxr hcell hfz
    have hst := (HO5.out.stored J (.int .u8 (v : Int))).1
    rw [bytesV_set] at hst
    have hbst : Below w4.heap.size w4 (w5.setCell ⟨g, J, none⟩ (.int .u8 (v : Int))) := HB5.out.setCell HGB.out.1 _
    have HX6 := Lib.hid (HX4.out.on hbst)
    have HA6 := Lib.hid (HA4.out.on hbst)
    generalize w5.setCell ⟨g, J, none⟩ (.int .u8 (v : Int)) = w6 at *
    have hrow : BRow w6 (some ⟨g, 0, none⟩) N cg ((allB LA).set J v) := brow_of_own0 hst (set_lt HBY.out HV.out.1)
    have M := read_log hrow (by omega) HX6.out.now.nam HX6.out.now.pos
    have hrd : readL ((allB LA).set J v) = (LA.take k, P) := by
      have hkl : k < LA.length := by rw [← HNA.out]; exact hkn
      have h := readN_turned HMAY.out (by rw [← HNA.out]; exact hla) (k := k) (jj := 1 + r) (v := v) hkl (by rw [HE.out, HEN.out]; omega) (by rw [HE.out, ← HF.out]; exact HJ.out.2) HV.out.1 (by
        rw [HE.out]
        have hx := HXV.out
        have e1 : allB LA = allB (LA.take k) ++ (frm e.bytes ++ allB (LA.drop (k + 1))) := by
          conv => lhs; rw [← List.take_append_drop (k + 1) LA, allB_append, allB_snoc hkl, HE.out, List.append_assoc]
        rw [e1, HJ.out.1, HP.out, List.getD_eq_getElem?_getD, List.getElem?_append_right (by omega), Nat.add_sub_cancel_left, List.getElem?_append_left (by rw [← HF.out]; exact HJ.out.2), ← List.getD_eq_getElem?_getD] at hx
        rw [← hx]
        exact HV.out.2)
      rw [← HP.out, ← HJ.out.1] at h
      exact h
    rw [hrd] at M
    unfold ReadLPost at M
    simp only at M
    have htl : (LA.take k).length = k := by rw [List.length_take, ← HNA.out]; omega
    rw [htl] at M
    have HM := Lib.hid M
    clear M hrd htl hrow hst hbst HX4 HA4 HO5 HB5
    go_wp2_with fail
    refine HM.out.mono ?_
    rintro en w7 ⟨M7, c7, rfl, hr, hb⟩
    have HX7 := Lib.hid (HX6.out.on hb)
    have HA7 := Lib.hid (HA6.out.on hb)
    have HM7 : Hid (Later w7 fun u => EntRow u M7 k c7 (LA.take k)) := Lib.hid (fun u hu => hr.below hu)
    clear hr hb HM HX6 HA6
    go_wp2_with fail
    refine (HT.out _ HX7.out.now.nam HX7.out.now.pos).mono ?_
    rintro en w8 ⟨rfl, hb⟩
    have HX8 := Lib.hid (HX7.out.on hb)
    have M := front_any (HM7.out _ hb) (HA7.out _ hb)
    rw [meet_take, Nat.min_eq_left (by rw [← HNA.out]; omega), decide_eq_true rfl] at M
    have HM := Lib.hid M
    clear M hb HX7 HM7 HA7
    go_wp2_with fail
    refine HM.out.mono ?_
    rintro en w9 ⟨rfl, hb⟩
    have HB := Lib.hid (past HX8.out.now.below hb)
    clear hb HX8 HM
    go_wp2
    go_ret
    exact ⟨rfl, HB.out⟩
  · rw [hh] at f0
    obtain ⟨f, hf⟩ : ∃ f : Nat, f = e.bytes.length % 128 + 128 := ⟨_, rfl⟩
    rw [← hf] at f0
    have g3 : (f : Int) ≥ 128 := by omega
    have HEN : Hid ((enc e.bytes.length).length = 2) := Lib.hid hen
    clear hf hh hL hen HHD
    obtain ⟨d, hd⟩ : ∃ d : Nat, d = F - 2 := ⟨_, rfl⟩
    obtain ⟨pn, hpn⟩ : ∃ pn : Nat, pn = P + 2 := ⟨_, rfl⟩
    have j1 : IntKind.i64.wrap ((P : Int) + 2) = (pn : Int) := by rw [IntKind.wrap_i64]; omega
    have j2 : IntKind.i64.wrap ((F : Int) - 2) = (d : Int) := by rw [IntKind.wrap_i64]; omega
    have j3 : IntKind.u64.wrap (d : Int) = (d : Int) := by rw [IntKind.wrap_u64]; omega
    obtain ⟨U, hU⟩ : ∃ U, IntKind.u64.wrap c2 = U := ⟨_, rfl⟩
    have hU0 : 0 ≤ U := by rw [← hU, IntKind.wrap_u64]; omega
    obtain ⟨y, hy, hy0, hy1⟩ : ∃ y : Int, U.tmod (d : Int) = y ∧ 0 ≤ y ∧ y < (d : Int) := ⟨_, rfl, Int.tmod_nonneg _ hU0, Int.tmod_lt_of_pos _ (by omega)⟩
    obtain ⟨r, rfl⟩ : ∃ r : Nat, y = (r : Int) := ⟨y.toNat, by omega⟩
    have j4 : IntKind.i64.wrap (r : Int) = (r : Int) := by rw [IntKind.wrap_i64]; omega
    obtain ⟨J, hJ⟩ : ∃ J : Nat, J = pn + r := ⟨_, rfl⟩
    have j5 : IntKind.i64.wrap ((pn : Int) + (r : Int)) = (J : Int) := by rw [IntKind.wrap_i64]; omega
    have j6 : ¬ (d : Int) = 0 := by omega
    have hJN : J < N := by omega
    have j7 : ¬ (J : Int) ≥ (N : Int) := by omega
    have HJ : Hid (J = P + (2 + r) ∧ 2 + r < F) := Lib.hid ⟨by omega, by omega⟩
    have j8 : (0 : Int) ≤ (J : Int) := by omega
    have j9 : (J : Int) < (N : Int) := by omega
    clear hd hpn hU0 hy0 hy1 hJ
    have hcell := HO5.out.cellAt J (by omega)
    have hfz := HO5.out.frozenAt J
    have hlen : J < (allB LA).length := by rw [← HN.out]; exact hJN
    have hgt := bytesV_get (allB LA) J hlen
    rw [hgt] at hcell
    obtain ⟨xv, hxv⟩ : ∃ xv, xv = (allB LA).getD J 0 := ⟨_, rfl⟩
    rw [← hxv] at hcell
    have hxb : xv < 256 := by rw [hxv]; exact HBY.out _ (by rw [List.getD_eq_getElem?_getD, List.getElem?_eq_getElem hlen]; exact List.getElem_mem hlen)
    obtain ⟨v, hv⟩ : ∃ v : Nat, v = xv ^^^ t := ⟨_, rfl⟩
    have hxr : bits .xor .u8 (xv : Int) (t : Int) = (v : Int) := by rw [hv]; exact u8_xor_nat xv t hxb ht
    have hv2 := xor_byte ⟨xv, hxb⟩ ⟨t, ht⟩
    simp only at hv2
    rw [← hv] at hv2
    have HV : Hid (v < 256 ∧ v ≠ xv) := Lib.hid ⟨hv2.1, hv2.2 HTZ.out⟩
    have HXV := Lib.hid hxv
    clear hgt hlen hxv hv hv2 hxb
    go_upto_region 17 with fail
    clear j1 j2 j3 hU hy j4 j5 j6 j7 f0 g1 g2 g3 hxr hcell hfz
    have hst := (HO5.out.stored J (.int .u8 (v : Int))).1
    rw [bytesV_set] at hst
    have hbst : Below w4.heap.size w4 (w5.setCell ⟨g, J, none⟩ (.int .u8 (v : Int))) := HB5.out.setCell HGB.out.1 _
    have HX6 := Lib.hid (HX4.out.on hbst)
    have HA6 := Lib.hid (HA4.out.on hbst)
    generalize w5.setCell ⟨g, J, none⟩ (.int .u8 (v : Int)) = w6 at *
    have hrow : BRow w6 (some ⟨g, 0, none⟩) N cg ((allB LA).set J v) := brow_of_own0 hst (set_lt HBY.out HV.out.1)
    have M := read_log hrow (by omega) HX6.out.now.nam HX6.out.now.pos
    have hrd : readL ((allB LA).set J v) = (LA.take k, P) := by
      have hkl : k < LA.length := by rw [← HNA.out]; exact hkn
      have h := readN_turned HMAY.out (by rw [← HNA.out]; exact hla) (k := k) (jj := 2 + r) (v := v) hkl (by rw [HE.out, HEN.out]; omega) (by rw [HE.out, ← HF.out]; exact HJ.out.2) HV.out.1 (by
        rw [HE.out]
        have hx := HXV.out
        have e1 : allB LA = allB (LA.take k) ++ (frm e.bytes ++ allB (LA.drop (k + 1))) := by
          conv => lhs; rw [← List.take_append_drop (k + 1) LA, allB_append, allB_snoc hkl, HE.out, List.append_assoc]
        rw [e1, HJ.out.1, HP.out, List.getD_eq_getElem?_getD, List.getElem?_append_right (by omega), Nat.add_sub_cancel_left, List.getElem?_append_left (by rw [← HF.out]; exact HJ.out.2), ← List.getD_eq_getElem?_getD] at hx
        rw [← hx]
        exact HV.out.2)
      rw [← HP.out, ← HJ.out.1] at h
      exact h
    rw [hrd] at M
    unfold ReadLPost at M
    simp only at M
    have htl : (LA.take k).length = k := by rw [List.length_take, ← HNA.out]; omega
    rw [htl] at M
    have HM := Lib.hid M
    clear M hrd htl hrow hst hbst HX4 HA4 HO5 HB5
    go_wp2_with fail
    refine HM.out.mono ?_
    rintro en w7 ⟨M7, c7, rfl, hr, hb⟩
    have HX7 := Lib.hid (HX6.out.on hb)
    have HA7 := Lib.hid (HA6.out.on hb)
    have HM7 : Hid (Later w7 fun u => EntRow u M7 k c7 (LA.take k)) := Lib.hid (fun u hu => hr.below hu)
    clear hr hb HM HX6 HA6
    go_wp2_with fail
    refine (HT.out _ HX7.out.now.nam HX7.out.now.pos).mono ?_
    rintro en w8 ⟨rfl, hb⟩
    have HX8 := Lib.hid (HX7.out.on hb)
    have M := front_any (HM7.out _ hb) (HA7.out _ hb)
    rw [meet_take, Nat.min_eq_left (by rw [← HNA.out]; omega), decide_eq_true rfl] at M
    have HM := Lib.hid M
    clear M hb HX7 HM7 HA7
    go_wp2_with fail
    refine HM.out.mono ?_
    rintro en w9 ⟨rfl, hb⟩
    have HB := Lib.hid (past HX8.out.now.below hb)
    clear hb HX8 HM
    go_wp2
    go_ret
    exact ⟨rfl, HB.out⟩
end Go.Proofs.YtdpoahjgdndnhaaDoor
