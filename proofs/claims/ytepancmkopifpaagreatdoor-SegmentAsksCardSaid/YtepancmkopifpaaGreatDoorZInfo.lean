/-
  PutSeg: a segment's bytes, as a text, of every segment; nothing that was there is written.
  Plain: what the document's reader finds in the bytes of a segment. No program in it.
  GetSeg: the segment that the document finds in bytes.
  GetSeg: the segment that the document finds in bytes; nothing that was there is written.
  InfoOf: what the document finds of bytes without their rows; nothing that was there is written.
-/
import Derived.Test.YtepancmkopifpaaGreatDoorZMay
import Derived.Test.YtepancmkopifpaaGreatDoorWTold
import Derived.Test.YtepancmkopifpaaGreatDoorBRGetA
import Derived.Deep.DeepCutAuto
import Derived.Test.YtepancmkopifpaaGreatDoorSInfo
set_option maxRecDepth 100000
namespace Go.Proofs.YtepancmkopifpaaGreatDoor
open Go.RowKit
attribute [local go_sem ↓] Go.wp_at_zero Go.wp_at_succ
set_option linter.unusedVariables false

theorem add_str (a b : List Nat) (ha : a.length ≤ 10000) (hb : b.length ≤ 10000) (w : World) : (binOp .add 9 (.string (strB a)) (.string (strB b))).run Tryz.prog w = .ok (.string (strB (a ++ b))) w := by
  have h1 := strB_size a
  have h2 := strB_size b
  rw [← strB_app]
  generalize strB a = S at *
  generalize strB b = T at *
  have h3 : S.size ≤ 10000 := by omega
  have h4 : T.size ≤ 10000 := by omega
  clear h1 h2
  go_simp
  omega
theorem tk_str : ({ data := #[84, 75] } : ByteArray) = strB [84, 75] := rfl
/-- What PutSeg says. -/
def refPut (s : Sg) : List Nat × Int := if s.may then if s.bytes.length ≤ 4000 then (s.bytes, 0) else ([], 8) else ([], 1)
theorem enc_le (n : Nat) (h : n < 18446744073709551616) : (enc n).length ≤ 10 := enc_len_le h

set_option maxHeartbeats 2000000 in
theorem putseg_any {i k f t : Int} {n m ca cb : Nat} {A B : Option Addr} {sm : List (Int × Int)} {ag : List Ag} {w : World} (h : SegAt w ⟨i, k, f, t, sm, ag⟩ A n ca B m cb) (hw : Wid w) :
    Calls Tryz.prog 7 #[.agg #[.int .i64 i, .int .i64 k, .int .i64 f, .int .i64 t, .slice A n ca, .slice B m cb]] w fun e w' => e = .returned (.tuple #[.string (strB (refPut ⟨i, k, f, t, sm, ag⟩).1), .int .i64 (refPut ⟨i, k, f, t, sm, ag⟩).2]) ∧ Below w.heap.size w w' := by
  have hb := below_box w (.cells #[.int .i64 i, .int .i64 k, .int .i64 f, .int .i64 t, .slice A n ca, .slice B m cb] 25)
  have HL : Hid (Later (w.alloc (.cells #[.int .i64 i, .int .i64 k, .int .i64 f, .int .i64 t, .slice A n ca, .slice B m cb] 25)) fun u => SegAt u ⟨i, k, f, t, sm, ag⟩ A n ca B m cb ∧ SgV u w.heap.size i k f t (.slice A n ca) (.slice B m cb) ∧ Wid u ∧ Below w.heap.size w u) := Lib.hid (fun u hu => ⟨h.below (past hb hu), (SgV.new w i k f t (.slice A n ca) (.slice B m cb) 25).below hu, hw.below (past hb hu), past hb hu⟩)
  have hok := h.ok
  have he0 : ({ data := #[] } : ByteArray) = strB [] := rfl
  clear h hw hb
  go_enter Tryz.func7, Tryz.ntmps7
  go_upto_region 1 with fail
  generalize (w.alloc (.cells #[.int .i64 i, .int .i64 k, .int .i64 f, .int .i64 t, .slice A n ca, .slice B m cb] 25)) = w1 at *
  obtain ⟨c0, c1, c2, c3, c4, c5, _⟩ := HL.out.now.2.1
  go_wp2_with fail
  have m1 := mayseg_any HL.out.now.1 HL.out.now.2.2.1
  by_cases hm : Sg.may ⟨i, k, f, t, sm, ag⟩
  case neg =>
    rw [decide_eq_false hm] at m1
    refine m1.mono ?_
    rintro e w2 ⟨rfl, hb⟩
    have HB2 := Lib.hid (past HL.out.now.2.2.2 hb)
    have HR : Hid (refPut ⟨i, k, f, t, sm, ag⟩ = ([], 1)) := Lib.hid (by unfold refPut; rw [if_neg hm])
    clear hb m1 hm HL c0 c1 c2 c3 c4 c5
    go_wp2
    (try rw [Exit.noGoto_ret])
    go_ret2
    exact ⟨by rw [HR.out]; rfl, HB2.out⟩
  case pos =>
    rw [decide_eq_true hm] at m1
    refine m1.mono ?_
    rintro e w2 ⟨rfl, hb⟩
    have HL2 := Lib.hid (HL.out.on hb)
    have HM := Lib.hid hm
    have HOK := Lib.hid hok
    obtain ⟨⟨p1, p2⟩, ⟨p3, p4⟩, ⟨p5, p6, p7⟩, p8⟩ := hm
    simp only at p1 p2 p3 p4 p5 p6 p7
    clear hb m1 HL c0 c1 c2 c3 c4 c5 hok p8
    have hblk := block_len HM.out HOK.out
    obtain ⟨I, rfl⟩ : ∃ I : Nat, i = (I : Int) := ⟨i.toNat, by omega⟩
    obtain ⟨K, rfl⟩ : ∃ K : Nat, k = (K : Int) := ⟨k.toNat, by omega⟩
    obtain ⟨F, rfl⟩ : ∃ F : Nat, f = (F : Int) := ⟨f.toNat, by omega⟩
    obtain ⟨G, hG⟩ : ∃ G : Nat, t - (F : Int) = (G : Int) := ⟨(t - (F : Int)).toNat, by omega⟩
    have hGw : IntKind.i64.wrap (G : Int) = (G : Int) := by rw [IntKind.wrap_i64]; omega
    have v1 : IntKind.u64.wrap (I : Int) = (I : Int) := by rw [IntKind.wrap_u64]; omega
    have v2 : IntKind.u64.wrap (K : Int) = (K : Int) := by rw [IntKind.wrap_u64]; omega
    have v3 : IntKind.u64.wrap (F : Int) = (F : Int) := by rw [IntKind.wrap_u64]; omega
    have v4 : IntKind.u64.wrap (G : Int) = (G : Int) := by rw [IntKind.wrap_u64]; omega
    have l1 := enc_le I (by omega)
    have l2 := enc_le K (by omega)
    have l3 := enc_le F (by omega)
    have l4 := enc_le G (by omega)
    have m1 := fun u : World => refput_any I u (by omega)
    have m2 := fun u : World => refput_any K u (by omega)
    have m3 := fun u : World => refput_any F u (by omega)
    have m4 := fun u : World => refput_any G u (by omega)
    obtain ⟨L, hL⟩ : ∃ L, [84, 75] ++ enc I ++ enc K ++ enc F ++ enc G = L := ⟨_, rfl⟩
    have hLl : L.length ≤ 42 := by rw [← hL]; simp only [List.length_append, List.length_cons, List.length_nil]; omega
    have HBODY : Hid (L ++ Sg.block ⟨(I : Int), (K : Int), (F : Int), t, sm, ag⟩ = Sg.body ⟨(I : Int), (K : Int), (F : Int), t, sm, ag⟩) := Lib.hid (by
      rw [← hL]
      unfold Sg.body
      simp only [hG, Int.toNat_natCast, bytesOf]
      simp)
    have z1 : (strB (enc I)).size ≤ 10 := by rw [strB_size]; exact l1
    have z2 : (strB (enc K)).size ≤ 10 := by rw [strB_size]; exact l2
    have z3 : (strB (enc F)).size ≤ 10 := by rw [strB_size]; exact l3
    have z4 : (strB (enc G)).size ≤ 10 := by rw [strB_size]; exact l4
    have hS4 : ((({ data := #[84, 75] } : ByteArray) ++ strB (enc I)) ++ strB (enc K)) ++ strB (enc F) ++ strB (enc G) = strB L := by
      rw [← hL, tk_str, strB_app, strB_app, strB_app, strB_app]
    obtain ⟨E1, hE1⟩ : ∃ E, strB (enc I) = E := ⟨_, rfl⟩
    obtain ⟨E2, hE2⟩ : ∃ E, strB (enc K) = E := ⟨_, rfl⟩
    obtain ⟨E3, hE3⟩ : ∃ E, strB (enc F) = E := ⟨_, rfl⟩
    obtain ⟨E4, hE4⟩ : ∃ E, strB (enc G) = E := ⟨_, rfl⟩
    rw [hE1] at m1 z1
    rw [hE2] at m2 z2
    rw [hE3] at m3 z3
    rw [hE4] at m4 z4
    rw [hE1, hE2, hE3, hE4] at hS4
    have n1 : 2 + E1.size ≤ 9223372036854775807 := by omega
    have n2 : 2 + E1.size + E2.size ≤ 9223372036854775807 := by omega
    have n3 : 2 + E1.size + E2.size + E3.size ≤ 9223372036854775807 := by omega
    have n4 : 2 + E1.size + E2.size + E3.size + E4.size ≤ 9223372036854775807 := by omega
    have M1 := Lib.hid m1
    have M2 := Lib.hid m2
    have M3 := Lib.hid m3
    have M4 := Lib.hid m4
    have HBLK := Lib.hid hblk
    have C0 : ∀ u : SubB w2, u.w.cell? ⟨w.heap.size, 0, none⟩ = some (.int .i64 (I : Int)) := fun u => (HL2.out u.w u.le).2.1.c0
    have C1 : ∀ u : SubB w2, u.w.cell? ⟨w.heap.size, 1, none⟩ = some (.int .i64 (K : Int)) := fun u => (HL2.out u.w u.le).2.1.c1
    have C2 : ∀ u : SubB w2, u.w.cell? ⟨w.heap.size, 2, none⟩ = some (.int .i64 (F : Int)) := fun u => (HL2.out u.w u.le).2.1.c2
    have C3 : ∀ u : SubB w2, u.w.cell? ⟨w.heap.size, 3, none⟩ = some (.int .i64 t) := fun u => (HL2.out u.w u.le).2.1.c3
    have HS4 := Lib.hid hS4
    have HLl := Lib.hid hLl
    clear m1 m2 m3 m4 hE1 hE2 hE3 hE4 hL hS4 hblk hLl l1 l2 l3 l4 z1 z2 z3 z4 p1 p2 p3 p4 p5 p6 p7 he0
    go_upto_region 3 with fail
    refine wp_region_calm (by kernel_rfl) (by kernel_rfl) ?_
    (try simp only [List.append])
    repeat (go_big_quiet_step ((first | (go_at_call_of 24 (Value.int .u64 (I : Int)); exact calm_call (M1.out _)) | (go_at_call_of 24 (Value.int .u64 (K : Int)); exact calm_call (M2.out _)) | (go_at_call_of 24 (Value.int .u64 (F : Int)); exact calm_call (M3.out _)) | (go_at_call_of 24 (Value.int .u64 (G : Int)); exact calm_call (M4.out _)))))
    refine wpQuiet_nil ?_
    rintro _ ⟨u, rfl⟩
    have HL3 : Hid (Later u.w _) := Lib.hid (HL2.out.on u.le)
    have hS4 := HS4.out
    rw [hS4]
    clear hS4 n1 n2 n3 n4 C0 C1 C2 C3 M1 M2 M3 M4 HL2
    generalize u.w = w3 at *
    have sz0 := strB_size L
    have hLl := HLl.out
    have sz1 : (strB L).size ≤ 42 := by omega
    obtain ⟨c0, c1, c2, c3, c4, c5, _⟩ := HL3.out.now.2.1
    clear sz0
    obtain ⟨BL, hBL⟩ : ∃ X, Sg.block ⟨(I : Int), (K : Int), (F : Int), t, sm, ag⟩ = X := ⟨_, rfl⟩
    have HBL := Lib.hid hBL
    rw [hBL] at HBODY HBLK
    have hblk := HBLK.out
    clear hBL
    go_upto_if 34 with fail
    go_cut [5] (fun c wx => c = .string (strB BL) ∧ Hid (Below w3.heap.size w3 wx))
    case first =>
      by_cases hk0 : K = 0
      · subst hk0
        have ⟨e1, e2, e3⟩ := has_zero HM.out.2.2.2 HOK.out rfl
        have hbb : (if BOk sm then putB sm else []) = BL := by rw [if_pos e2.1, ← e1]; exact HBL.out
        have m1 := rputblock_any (w := w3) HL3.out.now.1.sn HL3.out.now.1.sm.samps (by rw [← HL3.out.now.1.sn]; exact HL3.out.now.1.sm.le) HL3.out.now.1.sm.max
        simp only [if_pos e2.1] at m1 hbb
        rw [hbb] at m1
        have M1 := Lib.hid m1
        clear e1 e2 e3 hbb m1
        go_wp2_with fail
        refine M1.out.mono ?_
        rintro e w4 ⟨rfl, hb⟩
        have HB := Lib.hid hb
        clear hb
        go_wp2
        go_meet
        exact ⟨rfl, HB⟩
      · have ⟨e1, e2, e3⟩ := has_more HM.out.2.2.2 HOK.out (by show ((K : Nat) : Int) ≠ 0; omega)
        have hbb : (if AOk (K : Int) ag then putA (wid (K : Int)) ag else []) = BL := by rw [if_pos e2.1]; exact e1.symm.trans HBL.out
        have m1 := rputaggs_any (w := w3) (K : Int) HL3.out.now.1.ag.1 HL3.out.now.1.ag.2.1 HL3.out.now.1.ag.2.2.1 HL3.out.now.1.ag.2.2.2.1
        simp only [if_pos e2.1] at m1 hbb
        rw [hbb] at m1
        have M1 := Lib.hid m1
        have ek : ((K : Int) == 0) = false := by simp; omega
        clear e1 e2 e3 hbb m1
        go_wp2_with fail
        refine M1.out.mono ?_
        rintro e w4 ⟨rfl, hb⟩
        have HB := Lib.hid hb
        clear hb
        go_wp2
        go_meet
        exact ⟨rfl, HB⟩
    case rest =>
      obtain ⟨rfl, HB⟩ := hcut
      have HBE := Lib.hid (past HL3.out.now.2.2.2 HB.out)
      have hbl : BL.length ≤ 5000 := hblk
      have sz2 : (strB BL).size ≤ 5000 := by rw [strB_size]; exact hbl
      clear c0 c1 c2 c3 c4 c5 HL3 HB hblk
      have n1 : (strB L).size + (strB BL).size ≤ 9223372036854775807 := by omega
      have HAPP : Hid (strB L ++ strB BL = strB (Sg.body ⟨(I : Int), (K : Int), (F : Int), t, sm, ag⟩)) := Lib.hid (by rw [strB_app, HBODY.out])
      have hbl2 : (Sg.body ⟨(I : Int), (K : Int), (F : Int), t, sm, ag⟩).length ≤ 5042 := by rw [← HBODY.out, List.length_append]; omega
      have m1 := fun u : World => refof_any (Sg.body ⟨(I : Int), (K : Int), (F : Int), t, sm, ag⟩) u (body_byte _) (by omega)
      have m2 := fun u : World => four_any (more 1 (Sg.body ⟨(I : Int), (K : Int), (F : Int), t, sm, ag⟩)) u (more32 1 _)
      have sz3 : (strB (Sg.body ⟨(I : Int), (K : Int), (F : Int), t, sm, ag⟩)).size ≤ 5042 := by rw [strB_size]; exact hbl2
      have sz4 : (strB (four (more 1 (Sg.body ⟨(I : Int), (K : Int), (F : Int), t, sm, ag⟩)))).size ≤ 4 := by rw [strB_size, four_len]; exact Nat.le_refl _
      have HFIN : Hid (strB (Sg.body ⟨(I : Int), (K : Int), (F : Int), t, sm, ag⟩) ++ strB (four (more 1 (Sg.body ⟨(I : Int), (K : Int), (F : Int), t, sm, ag⟩))) = strB (Sg.bytes ⟨(I : Int), (K : Int), (F : Int), t, sm, ag⟩)) := Lib.hid (by rw [strB_app]; rfl)
      have HSZ : Hid ((strB (Sg.bytes ⟨(I : Int), (K : Int), (F : Int), t, sm, ag⟩)).size = (Sg.bytes ⟨(I : Int), (K : Int), (F : Int), t, sm, ag⟩).length) := Lib.hid (strB_size _)
      have HR : Hid (refPut ⟨(I : Int), (K : Int), (F : Int), t, sm, ag⟩ = if (Sg.bytes ⟨(I : Int), (K : Int), (F : Int), t, sm, ag⟩).length ≤ 4000 then (Sg.bytes ⟨(I : Int), (K : Int), (F : Int), t, sm, ag⟩, 0) else ([], 8)) := Lib.hid (by unfold refPut; rw [if_pos HM.out])
      have M1 := Lib.hid m1
      have M2 := Lib.hid m2
      clear m1 m2 hbl2 sz1 sz2 hbl hLl HLl HBODY HBLK HBL
      obtain ⟨R, hR⟩ : ∃ R, more 1 (Sg.body ⟨(I : Int), (K : Int), (F : Int), t, sm, ag⟩) = R := ⟨_, rfl⟩
      rw [hR] at sz4 HFIN M1 M2
      clear hR
      go_upto_region 9 with fail
      rw [HAPP.out]
      clear n1
      generalize strB (Sg.body ⟨(I : Int), (K : Int), (F : Int), t, sm, ag⟩) = SB at *
      generalize strB (four R) = SF at *
      have n2 : SB.size + SF.size ≤ 9223372036854775807 := by omega
      go_wp2_with fail
      refine (M1.out _).mono ?_
      rintro e w5 ⟨rfl, rfl⟩
      go_wp2_with fail
      refine (M2.out _).mono ?_
      rintro e w6 ⟨rfl, hb⟩
      have HB6 := Lib.hid (past HBE.out hb)
      clear hb M1 M2 HBE
      go_upto_region 10 with fail
      rw [HFIN.out]
      obtain ⟨SY, hSY⟩ : ∃ X, strB (Sg.bytes ⟨(I : Int), (K : Int), (F : Int), t, sm, ag⟩) = X := ⟨_, rfl⟩
      rw [hSY] at HFIN HSZ ⊢
      have HSY := Lib.hid hSY
      have hsz := HSZ.out
      obtain ⟨N, hN⟩ : ∃ N, SY.size = N := ⟨_, rfl⟩
      rw [hN] at hsz
      rw [← hsz] at HR
      clear hsz n2 sz3 sz4 hSY
      by_cases hN4 : N ≤ 4000
      · have HR2 : Hid (refPut ⟨(I : Int), (K : Int), (F : Int), t, sm, ag⟩ = (Sg.bytes ⟨(I : Int), (K : Int), (F : Int), t, sm, ag⟩, 0)) := Lib.hid (by rw [HR.out, if_pos hN4])
        have i4 : ¬ (N : Int) > 4000 := by omega
        clear HR hN4
        go_wp2
        (try rw [Exit.noGoto_ret])
        go_ret2
        exact ⟨by rw [HR2.out, HSY.out]; rfl, HB6.out⟩
      · have HR2 : Hid (refPut ⟨(I : Int), (K : Int), (F : Int), t, sm, ag⟩ = ([], 8)) := Lib.hid (by rw [HR.out, if_neg hN4])
        have i4 : (N : Int) > 4000 := by omega
        clear HR hN4
        go_wp2
        (try rw [Exit.noGoto_ret])
        go_ret2
        exact ⟨by rw [HR2.out]; rfl, HB6.out⟩
end Go.Proofs.YtepancmkopifpaaGreatDoor
set_option maxRecDepth 100000
namespace Go.Proofs.YtepancmkopifpaaGreatDoor
set_option linter.unusedVariables false

theorem numR_c2 (a : List Nat) {n : Nat} (r : List Nat) (h : n < 18446744073709551616) : numR (a ++ (enc n ++ r)) a.length false = (n, (a ++ enc n).length, false) := by
  rw [numR_at a r h, List.length_append]
theorem blkAt_put (a : List Nat) {l : List (Int × Int)} (h : BOk l) (hi : BIn l) : ∃ q, blkAt (a ++ putB l) a.length false = (l, q, false) := by
  have hr := (rise_iff l).1 h.1
  have hl := h.2
  match l, hr, hi, hl with
  | [], _, _, _ =>
    have e0 : a ++ putB [] = a ++ (enc 0 ++ []) := by simp [putB, sNums, bytesOf]
    refine ⟨(a ++ enc 0).length, ?_⟩
    unfold blkAt
    rw [e0, numR_c2 a [] (by decide)]
    rfl
  | x :: r, h, hi, hl =>
    obtain ⟨h0, h1, hr⟩ := h
    have hx := hi x (by simp)
    obtain ⟨z1, z2⟩ := zig_nat hx.2
    have hl' : r.length + 1 ≤ 64 := by simpa using hl
    have ht : ((x.1.toNat : Nat) : Int) = x.1 := by omega
    have e0 : a ++ putB (x :: r) = a ++ (enc (r.length + 1) ++ (enc x.1.toNat ++ (enc (zig x.2).toNat ++ bytesOf (sOn x.1 0 x.2 r)))) := by simp [putB, sNums, bytesOf]
    have e1 : a ++ putB (x :: r) = (a ++ enc (r.length + 1)) ++ (enc x.1.toNat ++ (enc (zig x.2).toNat ++ bytesOf (sOn x.1 0 x.2 r))) := by rw [e0]; simp
    have e2 : a ++ putB (x :: r) = ((a ++ enc (r.length + 1)) ++ enc x.1.toNat) ++ (enc (zig x.2).toNat ++ bytesOf (sOn x.1 0 x.2 r)) := by rw [e1]; simp
    have e3 : a ++ putB (x :: r) = (((a ++ enc (r.length + 1)) ++ enc x.1.toNat) ++ enc (zig x.2).toNat) ++ bytesOf (sOn x.1 0 x.2 r) := by rw [e2]; simp
    have q0 : numR (a ++ putB (x :: r)) a.length false = (r.length + 1, (a ++ enc (r.length + 1)).length, false) := by
      rw [e0, numR_c2 a _ (by omega)]
    have q1 : numR (a ++ putB (x :: r)) (a ++ enc (r.length + 1)).length false = (x.1.toNat, ((a ++ enc (r.length + 1)) ++ enc x.1.toNat).length, false) := by
      rw [e1, numR_c2 _ _ (by omega)]
    have q2 : numR (a ++ putB (x :: r)) ((a ++ enc (r.length + 1)) ++ enc x.1.toNat).length false = ((zig x.2).toNat, (((a ++ enc (r.length + 1)) ++ enc x.1.toNat) ++ enc (zig x.2).toNat).length, false) := by
      rw [e2, numR_c2 _ _ z2]
    have q3 := bOn_s r x.1 0 x.2 (((a ++ enc (r.length + 1)) ++ enc x.1.toNat) ++ enc (zig x.2).toNat) hr (fun y hy => hi y (by simp [hy])) h0 (by omega) (by omega) h1
    rw [← e3] at q3
    refine ⟨((((a ++ enc (r.length + 1)) ++ enc x.1.toNat) ++ enc (zig x.2).toNat) ++ bytesOf (sOn x.1 0 x.2 r)).length, ?_⟩
    unfold blkAt
    rw [q0]
    simp only
    rw [decide_eq_false (show ¬ 64 < r.length + 1 by omega)]
    simp only [Bool.or_false, bAll, Bool.false_eq_true, if_false]
    rw [q1]
    simp only
    rw [q2]
    simp only
    rw [ht, z1, zag_zig, w64_id hx.1, q3, e3]
theorem ablkAt_put (a : List Nat) {k : Int} {l : List Ag} (h : AOk k l) (ho : AIn l) : ∃ q, ablkAt (a ++ putA (wid k) l) (wid k) a.length false = (l, q, false) := by
  have hl := h.2
  have hal := (align_iff l h.1.1).1 h.1
  have hW := wid_three h.1.1
  generalize wid k = W at *
  have q := numR_c a (aOn W 0 l) (show l.length < 18446744073709551616 by omega)
  have r := rOn_at hW l none (a ++ enc l.length) hal ho (fun f hf => by cases hf)
  simp only [preOf] at r
  rw [← app_c] at r
  have e : a ++ putA W l = a ++ bytesOf (l.length :: aOn W 0 l) := by unfold putA; rfl
  rw [← e] at q r
  refine ⟨(a ++ putA W l).length, ?_⟩
  unfold ablkAt
  rw [q]
  simp only
  rw [decide_eq_false (show ¬ 64 < l.length by omega)]
  simp only [Bool.or_false]
  rw [r]
/-- What the reader finds. -/
structure Parsed (c : List Nat) (s : Sg) (p1 p2 p3 p4 : Nat) : Prop where
  n1 : numR c 2 false = (s.id.toNat, p1, false)
  n2 : numR c p1 false = (s.tier.toNat, p2, false)
  n3 : numR c p2 false = (s.fr.toNat, p3, false)
  n4 : numR c p3 false = ((s.tz - s.fr).toNat, p4, false)
  b0 : s.tier = 0 → ∃ q, blkAt c p4 false = (s.sm, q, false)
  b1 : s.tier ≠ 0 → ∃ q, ablkAt c (wid s.tier) p4 false = (s.ag, q, false)
theorem parse_body {s : Sg} (hm : s.may) (ho : s.ok) : ∃ p1 p2 p3 p4, Parsed s.body s p1 p2 p3 p4 := by
  obtain ⟨⟨a1, a2⟩, ⟨a3, a4⟩, ⟨a5, a6, a7⟩, a8⟩ := hm
  have e : s.body = [84, 75] ++ (enc s.id.toNat ++ (enc s.tier.toNat ++ (enc s.fr.toNat ++ (enc (s.tz - s.fr).toNat ++ s.block)))) := by
    unfold Sg.body
    simp [bytesOf]
  have e1 : s.body = ([84, 75] ++ enc s.id.toNat) ++ (enc s.tier.toNat ++ (enc s.fr.toNat ++ (enc (s.tz - s.fr).toNat ++ s.block))) := by rw [e]; simp
  have e2 : s.body = ([84, 75] ++ enc s.id.toNat ++ enc s.tier.toNat) ++ (enc s.fr.toNat ++ (enc (s.tz - s.fr).toNat ++ s.block)) := by rw [e]; simp
  have e3 : s.body = ([84, 75] ++ enc s.id.toNat ++ enc s.tier.toNat ++ enc s.fr.toNat) ++ (enc (s.tz - s.fr).toNat ++ s.block) := by rw [e]; simp
  have e4 : s.body = ([84, 75] ++ enc s.id.toNat ++ enc s.tier.toNat ++ enc s.fr.toNat ++ enc (s.tz - s.fr).toNat) ++ s.block := by rw [e]; simp
  refine ⟨([84, 75] ++ enc s.id.toNat).length, ([84, 75] ++ enc s.id.toNat ++ enc s.tier.toNat).length, ([84, 75] ++ enc s.id.toNat ++ enc s.tier.toNat ++ enc s.fr.toNat).length, ([84, 75] ++ enc s.id.toNat ++ enc s.tier.toNat ++ enc s.fr.toNat ++ enc (s.tz - s.fr).toNat).length, ?_, ?_, ?_, ?_, fun h0 => ?_, fun h0 => ?_⟩
  · rw [e]
    exact numR_c2 [84, 75] _ (by omega)
  · rw [e1]
    exact numR_c2 _ _ (by omega)
  · rw [e2]
    exact numR_c2 _ _ (by omega)
  · rw [e3]
    exact numR_c2 _ _ (by omega)
  · obtain ⟨b1, b2, _⟩ := has_zero a8 ho h0
    rw [e4, b1]
    exact blkAt_put _ b2.1 b2.2
  · obtain ⟨b1, b2, _⟩ := has_more a8 ho h0
    rw [e4, b1]
    exact ablkAt_put _ b2.1 b2.2
/-- What holds of bytes that are a file. -/
theorem file_parts {b : List Nat} {s : Sg} (h : IsFile b s) : 6 ≤ b.length ∧ b.length ≤ 4000 ∧ b.take 2 = [84, 75] ∧ b.take (b.length - 4) = s.body := by
  obtain ⟨h1, h2, h3, h4⟩ := h
  have hl : b.length = s.body.length + 4 := by rw [← h3, bytes_len]
  have hb2 : 2 ≤ s.body.length := by
    unfold Sg.body
    simp only [List.length_append, List.length_cons, List.length_nil]
    omega
  refine ⟨by omega, h4, ?_, ?_⟩
  · rw [← h3]
    unfold Sg.bytes Sg.body
    simp
  · rw [hl, ← h3]
    unfold Sg.bytes
    rw [show s.body.length + 4 - 4 = s.body.length by omega, List.take_left]
theorem refPut_file {b : List Nat} {s : Sg} (ho : s.ok) : refPut s = (b, 0) ↔ IsFile b s := by
  unfold refPut IsFile
  by_cases h1 : s.may
  · by_cases h2 : s.bytes.length ≤ 4000
    · rw [if_pos h1, if_pos h2]
      constructor
      · intro h
        injection h with h3 _
        exact ⟨h1, ho, h3, by rw [← h3]; exact h2⟩
      · rintro ⟨_, _, h3, _⟩
        rw [h3]
    · rw [if_pos h1, if_neg h2]
      constructor
      · intro h
        injection h with _ h3
        cases h3
      · rintro ⟨_, _, h3, h4⟩
        rw [h3] at h2
        exact absurd h4 h2
  · rw [if_neg h1]
    constructor
    · intro h
      injection h with _ h3
      cases h3
    · rintro ⟨h3, _⟩
      exact absurd h3 h1
end Go.Proofs.YtepancmkopifpaaGreatDoor
set_option maxRecDepth 100000
namespace Go.Proofs.YtepancmkopifpaaGreatDoor
open Go.RowKit
attribute [local go_sem ↓] Go.wp_at_zero Go.wp_at_succ
set_option linter.unusedVariables false

theorem strB_take (b : List Nat) (k : Nat) : (strB b).extract 0 k = strB (b.take k) := by
  refine ByteArray.ext (Array.toList_inj.1 ?_)
  rw [ByteArray.data_extract, Array.toList_extract]
  unfold strB strOfNums
  simp [List.map_take]
theorem slice_str (b : List Nat) (k : Nat) (hk : k ≤ b.length) (hl : b.length ≤ 10000) (w : World) : (Instr.slice 9 (.string (strB b)) none (some (.int .i64 (k : Int))) none).run Tryz.prog w = .ok (.string (strB (b.take k))) w := by
  rw [← strB_take]
  have h := strB_size b
  generalize strB b = S at *
  have h1 : S.size ≤ 10000 := by omega
  have h2 : (k : Int) ≤ (S.size : Int) := by omega
  clear h
  go_simp
theorem strB_is {bs : List Nat} (hb : ∀ c ∈ bs, c < 256) (hl : bs.length ≤ 1000) : StrIs (strB bs) bs :=
  ⟨strB_size bs, hb, by rw [strB_size]; exact hl, fun j hj => strB_get bs hb j hj⟩
section
variable {b : List Nat} {v1 v2 v3 v4 p1 p2 p3 p4 : Nat} {b1 b2 b3 b4 : Bool}
theorem get_nums {s : Sg} (hf : IsFile b s) (h1 : numR (b.take (b.length - 4)) 2 false = (v1, p1, b1)) (h2 : numR (b.take (b.length - 4)) p1 b1 = (v2, p2, b2)) (h3 : numR (b.take (b.length - 4)) p2 b2 = (v3, p3, b3)) (h4 : numR (b.take (b.length - 4)) p3 b3 = (v4, p4, b4)) :
    s.id = (v1 : Int) ∧ s.tier = (v2 : Int) ∧ s.fr = (v3 : Int) ∧ s.tz = (v3 : Int) + (v4 : Int) ∧ b4 = false ∧ (s.tier = 0 → ∃ q, blkAt (b.take (b.length - 4)) p4 false = (s.sm, q, false)) ∧ (s.tier ≠ 0 → ∃ q, ablkAt (b.take (b.length - 4)) (wid s.tier) p4 false = (s.ag, q, false)) := by
  obtain ⟨_, _, _, hbody⟩ := file_parts hf
  obtain ⟨q1, q2, q3, q4, hP⟩ := parse_body hf.1 hf.2.1
  rw [hbody] at h1 h2 h3 h4 ⊢
  obtain ⟨n1, n2, n3, n4, c0, c1⟩ := hP
  rw [n1] at h1
  simp only [Prod.mk.injEq] at h1
  obtain ⟨e1, rfl, rfl⟩ := h1
  rw [n2] at h2
  simp only [Prod.mk.injEq] at h2
  obtain ⟨e2, rfl, rfl⟩ := h2
  rw [n3] at h3
  simp only [Prod.mk.injEq] at h3
  obtain ⟨e3, rfl, rfl⟩ := h3
  rw [n4] at h4
  simp only [Prod.mk.injEq] at h4
  obtain ⟨e4, rfl, rfl⟩ := h4
  obtain ⟨⟨a1, a2⟩, ⟨a3, a4⟩, ⟨a5, a6, a7⟩, _⟩ := hf.1
  exact ⟨by omega, by omega, by omega, by omega, rfl, c0, c1⟩
theorem get_limit (hb : ∀ c ∈ b, c < 256) (h1 : numR (b.take (b.length - 4)) 2 false = (v1, p1, b1)) (h2 : numR (b.take (b.length - 4)) p1 b1 = (v2, p2, b2)) (h3 : numR (b.take (b.length - 4)) p2 b2 = (v3, p3, b3)) (h4 : numR (b.take (b.length - 4)) p3 b3 = (v4, p4, b4))
    (hl : 1073741824 < v1 ∨ 3 < v2 ∨ 1099511627776 < v3 ∨ 1099511627776 < v4) : readS b = none :=
  readS_none hb (fun s hf => by
    obtain ⟨e1, e2, e3, e4, _⟩ := get_nums hf h1 h2 h3 h4
    obtain ⟨⟨a1, a2⟩, ⟨a3, a4⟩, ⟨a5, a6, a7⟩, _⟩ := hf.1
    omega)
theorem get_says {sm : List (Int × Int)} {ag : List Ag} {bad : Bool} (hb : ∀ c ∈ b, c < 256) (h1 : numR (b.take (b.length - 4)) 2 false = (v1, p1, b1)) (h2 : numR (b.take (b.length - 4)) p1 b1 = (v2, p2, b2)) (h3 : numR (b.take (b.length - 4)) p2 b2 = (v3, p3, b3)) (h4 : numR (b.take (b.length - 4)) p3 b3 = (v4, p4, b4))
    (hs : (v2 = 0 ∧ ag = [] ∧ ∃ q, blkAt (b.take (b.length - 4)) p4 b4 = (sm, q, bad)) ∨ (v2 ≠ 0 ∧ sm = [] ∧ ∃ q, ablkAt (b.take (b.length - 4)) (wid (v2 : Int)) p4 b4 = (ag, q, bad))) (ho : Sg.ok ⟨v1, v2, v3, (v3 : Int) + (v4 : Int), sm, ag⟩) :
    (readS b = some ⟨v1, v2, v3, (v3 : Int) + (v4 : Int), sm, ag⟩ ∧ bad = false ∧ refPut ⟨v1, v2, v3, (v3 : Int) + (v4 : Int), sm, ag⟩ = (b, 0)) ∨ (readS b = none ∧ ¬ (bad = false ∧ refPut ⟨v1, v2, v3, (v3 : Int) + (v4 : Int), sm, ag⟩ = (b, 0))) := by
  by_cases hp : bad = false ∧ refPut ⟨v1, v2, v3, (v3 : Int) + (v4 : Int), sm, ag⟩ = (b, 0)
  · exact .inl ⟨(readS_iff hb).2 ((refPut_file ho).1 hp.2), hp⟩
  · refine .inr ⟨readS_none hb (fun s hf => hp ?_), hp⟩
    obtain ⟨e1, e2, e3, e4, rfl, c0, c1⟩ := get_nums hf h1 h2 h3 h4
    have hok := hf.2.1
    have hhas := hf.1.2.2.2
    obtain ⟨i, k, f, t, sm', ag'⟩ := s
    simp only at e1 e2 e3 e4 c0 c1
    subst e1 e2 e3 e4
    rcases hs with ⟨r1, r2, q, r3⟩ | ⟨r1, r2, q, r3⟩
    · obtain ⟨q', r4⟩ := c0 (by omega)
      rw [r4] at r3
      simp only [Prod.mk.injEq] at r3
      obtain ⟨rfl, _, rfl⟩ := r3
      have hag := (has_zero hhas hok (by show ((v2 : Nat) : Int) = 0; omega)).2.2
      simp only at hag
      subst hag r2
      exact ⟨rfl, (refPut_file ho).2 hf⟩
    · obtain ⟨q', r4⟩ := c1 (by omega)
      rw [r4] at r3
      simp only [Prod.mk.injEq] at r3
      obtain ⟨rfl, _, rfl⟩ := r3
      have hsm := (has_more hhas hok (by show ((v2 : Nat) : Int) ≠ 0; omega)).2.2
      simp only at hsm
      subst hsm r2
      exact ⟨rfl, (refPut_file ho).2 hf⟩
end
end Go.Proofs.YtepancmkopifpaaGreatDoor
set_option maxRecDepth 100000
namespace Go.Proofs.YtepancmkopifpaaGreatDoor
open Go.RowKit
attribute [local go_sem ↓] Go.wp_at_zero Go.wp_at_succ
set_option linter.unusedVariables false

theorem SgV.grown {w w' : World} {g : Nat} {i k f t : Int} {a b : Value} {row : Option Nat} (h : SgV w g i k f t a b) (hg : w.grownBy w' row) (hne : some g ≠ row) : SgV w' g i k f t a b :=
  h.of (fun j => hg.cell_far ⟨g, j, none⟩ h.lt hne) (fun j => hg.frozen_far ⟨g, j, none⟩ h.lt hne)
/-- What GetSeg says. -/
def GetR (w : World) (R : Option Sg) (e : Ending) (w' : World) : Prop :=
  (match R with
    | some s => ∃ A n ca B m cb, e = .returned (.tuple #[.agg #[.int .i64 s.id, .int .i64 s.tier, .int .i64 s.fr, .int .i64 s.tz, .slice A n ca, .slice B m cb], .int .i64 0]) ∧ SegAt w' s A n ca B m cb
    | none => e = .returned (.tuple #[.agg #[.int .i64 0, .int .i64 0, .int .i64 0, .int .i64 0, .slice none 0 0, .slice none 0 0], .int .i64 2])) ∧ Below w.heap.size w w'
/-- The reader and the result's variable. -/
structure GI (w wr : World) (S : ByteArray) (p : Nat) (bad : Bool) : Prop where
  pos : CAt wr (w.heap.size + 1) S p bad
  sv : SgV wr w.heap.size 0 0 0 0 (.slice none 0 0) (.slice none 0 0)
  below : Below w.heap.size w wr
theorem GI.num {w wr w' : World} {S : ByteArray} {p q : Nat} {bad bad' : Bool} (h : GI w wr S p bad) (hc : CAt w' (w.heap.size + 1) S q bad') (hg : wr.grownBy w' (some (w.heap.size + 1))) : GI w w' S q bad' :=
  ⟨hc, h.sv.grown hg (fun e => by injection e with e; omega), h.below.grown hg h.below.size (fun k e => by injection e with e; omega)⟩

theorem SgV.set4 {w : World} {g : Nat} {i k f t : Int} {a b : Value} (h : SgV w g i k f t a b) (v : Value) : SgV (w.setCell ⟨g, 4, none⟩ v) g i k f t v b := by
  obtain ⟨c0, c1, c2, c3, c4, c5, z0, z1, z2, z3, z4, z5⟩ := h
  constructor <;> simp [go_sem, *]
theorem SgV.set5 {w : World} {g : Nat} {i k f t : Int} {a b : Value} (h : SgV w g i k f t a b) (v : Value) : SgV (w.setCell ⟨g, 5, none⟩ v) g i k f t a v := by
  obtain ⟨c0, c1, c2, c3, c4, c5, z0, z1, z2, z3, z4, z5⟩ := h
  constructor <;> simp [go_sem, *]
/-- The segment that was read, in its variable. -/
structure GD (w wx : World) (gS : Nat) (C : ByteArray) (s : Sg) (bad : Bool) (A : Option Addr) (n ca : Nat) (B : Option Addr) (m cb q : Nat) : Prop where
  seg : SegN wx (w.heap.size + 1) s A n ca B m cb
  sv : SgV wx gS s.id s.tier s.fr s.tz (.slice A n ca) (.slice B m cb)
  rd : CAt wx (w.heap.size + 1) C q bad
  res : SgV wx w.heap.size 0 0 0 0 (.slice none 0 0) (.slice none 0 0)
  below : Below w.heap.size w wx
theorem GD.on {w wx w' : World} {gS : Nat} {C : ByteArray} {s : Sg} {bad : Bool} {A : Option Addr} {n ca : Nat} {B : Option Addr} {m cb q : Nat} (h : GD w wx gS C s bad A n ca B m cb q) (hb : Below wx.heap.size wx w') : GD w w' gS C s bad A n ca B m cb q :=
  ⟨h.seg.below hb, h.sv.below hb, h.rd.below hb, h.res.below hb, past h.below hb⟩
theorem GD.samps {w w7 w8 : World} {C : ByteArray} {p q gS : Nat} {bad bad' : Bool} {i k f t : Int} {sm : List (Int × Int)} {V : Value} (HG : GI w w7 C p bad) (HS : SgV w7 gS i k f t (.slice none 0 0) (.slice none 0 0)) (hgS : w.heap.size + 1 < gS)
    (hok : In64 i ∧ In64 k ∧ In64 f ∧ In64 t) (hown : w8.ownsRow w7.heap.size 48 2 V sm.length (sampV sm)) (hin : In2 sm) (hc : CAt w8 (w.heap.size + 1) C q bad') (hg : w7.grownBy w8 (some (w.heap.size + 1))) :
    ∃ A ca, V = .slice A sm.length ca ∧ GD w (w8.setCell ⟨gS, 4, none⟩ V) gS C ⟨i, k, f, t, sm, []⟩ bad' A sm.length ca none 0 0 q := by
  have hlt := HS.lt
  have HG8 := HG.num hc hg
  have HS8 := HS.grown hg (fun e => by injection e with e; omega)
  obtain ⟨A, ca, rfl, hr, _, hf⟩ := row_of_own hown hin
  refine ⟨A, ca, rfl, ⟨⟨hr.kept (fun a e => Below.heap_setCell _ _ _ _ (by have := hf a e; show a.block ≠ gS; omega)), rfl, rowOf_nil _, hok.1, hok.2.1, hok.2.2.1, hok.2.2.2, hin, fun a h => by simp at h⟩, fun a e => by have := hf a e; omega, fun a e => by cases e⟩, HS8.set4 _, hc.grown (g_cell _ gS 4 _) (fun e => by injection e with e; omega), HG8.sv.set_ (by omega), HG8.below.setCell (by show w.heap.size ≤ gS; omega) _⟩
theorem GD.aggs {w w7 w8 : World} {C : ByteArray} {p q gS : Nat} {bad bad' : Bool} {i k f t : Int} {ag : List Ag} {V : Value} (HG : GI w w7 C p bad) (HS : SgV w7 gS i k f t (.slice none 0 0) (.slice none 0 0)) (hgS : w.heap.size + 1 < gS)
    (hok : In64 i ∧ In64 k ∧ In64 f ∧ In64 t) (hown : w8.ownsRow w7.heap.size 50 7 V ag.length (aggV ag)) (hin : ∀ a ∈ ag, a.ok) (hc : CAt w8 (w.heap.size + 1) C q bad') (hg : w7.grownBy w8 (some (w.heap.size + 1))) :
    ∃ B cb, V = .slice B ag.length cb ∧ GD w (w8.setCell ⟨gS, 5, none⟩ V) gS C ⟨i, k, f, t, [], ag⟩ bad' none 0 0 B ag.length cb q := by
  have hlt := HS.lt
  have HG8 := HG.num hc hg
  have HS8 := HS.grown hg (fun e => by injection e with e; omega)
  obtain ⟨B, cb, rfl, hr, hf⟩ := rowOf_new hown hin
  refine ⟨B, cb, rfl, ⟨⟨Row.none _, rfl, hr.kept (fun a e => Below.heap_setCell _ _ _ _ (by have := hf a e; show a.block ≠ gS; omega)), hok.1, hok.2.1, hok.2.2.1, hok.2.2.2, fun a h => by simp at h, hin⟩, fun a e => (by cases e), fun a e => by have := hf a e; omega⟩, HS8.set5 _, hc.grown (g_cell _ gS 5 _) (fun e => by injection e with e; omega), HG8.sv.set_ (by omega), HG8.below.setCell (by show w.heap.size ≤ gS; omega) _⟩

set_option maxHeartbeats 2000000 in
theorem getseg_any {b : List Nat} (hb : ∀ c ∈ b, c < 256) (hl : b.length ≤ 400) {w : World} (hw : Wid w) : Calls Tryz.prog 9 #[.string (strB b)] w (GetR w (readS b)) := by
  have hsz := strB_size b
  have he0 : ({ data := #[84, 75] } : ByteArray) = strB [84, 75] := rfl
  have hx2 := strB_take b 2
  have hx4 := strB_take b (b.length - 4)
  have HFP : Hid (∀ s, IsFile b s → 6 ≤ b.length ∧ b.take 2 = [84, 75]) := Lib.hid (fun s h => ⟨(file_parts h).1, (file_parts h).2.2.1⟩)
  have HNO : Hid ((∀ s, ¬ IsFile b s) → readS b = none) := Lib.hid (fun h => readS_none hb h)
  have hc2 : (∀ c ∈ b.take 2, c < 256) := fun c hc => hb c (List.mem_of_mem_take hc)
  have hcmp := strB_eq hc2 (show ∀ c ∈ [84, 75], c < 256 by decide)
  have HSI := Lib.hid (strB_is (bs := b.take (b.length - 4)) (fun c hc => hb c (List.mem_of_mem_take hc)) (by rw [List.length_take]; omega))
  obtain ⟨n, hn⟩ : ∃ n, b.length = n := ⟨_, rfl⟩
  rw [hn] at hsz hx4 hl
  obtain ⟨S, hS⟩ : ∃ S, strB b = S := ⟨_, rfl⟩
  obtain ⟨T, hT⟩ : ∃ S, strB (b.take 2) = S := ⟨_, rfl⟩
  obtain ⟨C, hC⟩ : ∃ S, strB (b.take (n - 4)) = S := ⟨_, rfl⟩
  rw [hn, hC] at HSI
  rw [hS, hT] at hx2
  rw [hS, hC] at hx4
  rw [hS] at hsz ⊢
  rw [hT, ← he0, show ({ data := #[84, 75] } : ByteArray).toList = [84, 75] by simp [go_sem]] at hcmp
  have HS := Lib.hid hS
  have HN := Lib.hid hn
  have HB := Lib.hid hb
  have HW := Lib.hid hw
  clear hS hT hC he0 hn hb hc2 hw
  go_enter Tryz.func9, Tryz.ntmps9
  go_upto_region 1 with fail
  have hb1 := below_box w (.cells #[.int .i64 0, .int .i64 0, .int .i64 0, .int .i64 0, .slice none 0 0, .slice none 0 0] 25)
  have hv1 := SgV.new w 0 0 0 0 (.slice none 0 0) (.slice none 0 0) 25
  have hs1 : (w.alloc (.cells #[.int .i64 0, .int .i64 0, .int .i64 0, .int .i64 0, .slice none 0 0, .slice none 0 0] 25)).heap.size = w.heap.size + 1 := by simp
  have HB1 := Lib.hid hb1
  have HV1 := Lib.hid hv1
  have HS1 := Lib.hid hs1
  clear hb1 hv1 hs1
  generalize (w.alloc (.cells #[.int .i64 0, .int .i64 0, .int .i64 0, .int .i64 0, .slice none 0 0, .slice none 0 0] 25)) = w1 at *
  have hi4000 : ¬ (n : Int) > 4000 := by omega
  by_cases h6 : n < 6
  · have HR : Hid (readS b = none) := Lib.hid (HNO.out (fun s h => by have := (HFP.out s h).1; rw [HN.out] at this; omega))
    have i1 : (n : Int) < 6 := by omega
    obtain ⟨d0, d1, d2, d3, d4, d5, y0, y1, y2, y3, y4, y5⟩ := HV1.out
    clear hcmp hx2 hx4
    go_wp2
    (try simp only [Exit.inBlock, Exit.then])
    refine bodyPost_ret (v := .tuple #[.agg #[.int .i64 0, .int .i64 0, .int .i64 0, .int .i64 0, .slice none 0 0, .slice none 0 0], .int .i64 2]) ?_ rfl ?_
    · rw [results_cell_tmp rfl]
      go_simp
    · unfold GetR
      rw [HR.out]
      exact ⟨rfl, by first | with_reducible exact HB1.out | with_reducible exact below_set6 HB1.out (Nat.le_refl _)⟩
  · have i1 : ¬ (n : Int) < 6 := by omega
    by_cases htk : b.take 2 = [84, 75]
    case neg =>
      rw [decide_eq_false htk] at hcmp
      have HR : Hid (readS b = none) := Lib.hid (HNO.out (fun s h => htk (HFP.out s h).2))
      obtain ⟨d0, d1, d2, d3, d4, d5, y0, y1, y2, y3, y4, y5⟩ := HV1.out
      clear htk hx4
      go_wp2
      (try simp only [Exit.inBlock, Exit.then])
      refine bodyPost_ret (v := .tuple #[.agg #[.int .i64 0, .int .i64 0, .int .i64 0, .int .i64 0, .slice none 0 0, .slice none 0 0], .int .i64 2]) ?_ rfl ?_
      · rw [results_cell_tmp rfl]
        go_simp
      · unfold GetR
        rw [HR.out]
        exact ⟨rfl, by first | with_reducible exact HB1.out | with_reducible exact below_set6 HB1.out (Nat.le_refl _)⟩
    case pos =>
      rw [decide_eq_true htk] at hcmp
      have i2 : IntKind.i64.wrap ((n : Int) - 4) = ((n - 4 : Nat) : Int) := by rw [IntKind.wrap_i64]; omega
      go_upto_region 4 with fail
      have HG0 : Hid (GI w (w1.alloc (.cells #[.string C, .int .i64 2, .bool false] 65)) C 2 false) := Lib.hid ⟨by
        have e := HS1.out
        constructor <;> simp [← e], HV1.out.below (below_box _ _), past HB1.out (below_box _ _)⟩
      have hgc : w1.heap.size = w.heap.size + 1 := HS1.out
      rw [hgc]
      have HNB := Lib.hid (show ∀ c ∈ b.take (n - 4), c < 256 from fun c hc => HB.out c (List.mem_of_mem_take hc))
      have HCL : Hid ((b.take (n - 4)).length = n - 4) := Lib.hid (by rw [List.length_take, HN.out]; omega)
      clear hcmp hx2 hx4 HV1 hgc
      generalize w1.alloc (.cells #[.string C, .int .i64 2, .bool false] 65) = w2 at *
      obtain ⟨cL, hcL⟩ : ∃ cL, b.take (n - 4) = cL := ⟨_, rfl⟩
      rw [hcL] at HSI HNB HCL
      have HCC := Lib.hid hcL
      clear hcL
      obtain ⟨v1, p1, b1, h1⟩ : ∃ v p d, numR cL 2 false = (v, p, d) := ⟨_, _, _, rfl⟩
      have n1 := numR_le (bad := false) HNB.out (show 2 ≤ cL.length by rw [HCL.out]; omega)
      have m1 := num_any cL (w.heap.size + 1) C 2 false w2 HG0.out.pos HSI.out (by rw [HCL.out]; omega)
      unfold NumPost at m1
      simp only [h1] at m1 n1
      have M1 := Lib.hid m1
      have H1 := Lib.hid h1
      clear m1 h1
      go_wp2_with fail
      refine M1.out.mono ?_
      rintro e w3 ⟨rfl, hc, hg⟩
      have HG1 := Lib.hid (HG0.out.num hc hg)
      obtain ⟨v2, p2, b2, h2⟩ : ∃ v p d, numR cL p1 b1 = (v, p, d) := ⟨_, _, _, rfl⟩
      have n2 := numR_le (bad := b1) HNB.out n1.1
      have m2 := num_any cL (w.heap.size + 1) C p1 b1 w3 HG1.out.pos HSI.out n1.1
      unfold NumPost at m2
      simp only [h2] at m2 n2
      have M2 := Lib.hid m2
      have H2 := Lib.hid h2
      clear m2 h2 hc hg HG0 M1
      go_wp2_with fail
      refine M2.out.mono ?_
      rintro e w4 ⟨rfl, hc, hg⟩
      have HG2 := Lib.hid (HG1.out.num hc hg)
      obtain ⟨v3, p3, b3, h3⟩ : ∃ v p d, numR cL p2 b2 = (v, p, d) := ⟨_, _, _, rfl⟩
      have n3 := numR_le (bad := b2) HNB.out n2.1
      have m3 := num_any cL (w.heap.size + 1) C p2 b2 w4 HG2.out.pos HSI.out n2.1
      unfold NumPost at m3
      simp only [h3] at m3 n3
      have M3 := Lib.hid m3
      have H3 := Lib.hid h3
      clear m3 h3 hc hg HG1 M2
      go_wp2_with fail
      refine M3.out.mono ?_
      rintro e w5 ⟨rfl, hc, hg⟩
      have HG3 := Lib.hid (HG2.out.num hc hg)
      obtain ⟨v4, p4, b4, h4⟩ : ∃ v p d, numR cL p3 b3 = (v, p, d) := ⟨_, _, _, rfl⟩
      have n4 := numR_le (bad := b3) HNB.out n3.1
      have m4 := num_any cL (w.heap.size + 1) C p3 b3 w5 HG3.out.pos HSI.out n3.1
      unfold NumPost at m4
      simp only [h4] at m4 n4
      have M4 := Lib.hid m4
      have H4 := Lib.hid h4
      clear m4 h4 hc hg HG2 M3
      go_wp2_with fail
      refine M4.out.mono ?_
      rintro e w6 ⟨rfl, hc, hg⟩
      have HG4 := Lib.hid (HG3.out.num hc hg)
      have HP4 := Lib.hid n4.1
      obtain ⟨_, l1⟩ := n1
      obtain ⟨_, l2⟩ := n2
      obtain ⟨_, l3⟩ := n3
      obtain ⟨_, l4⟩ := n4
      clear hc hg HG3 M4
      go_upto_region 5 with fail
      go_cut [54] (fun c wx => c = .bool (decide ((v1 : Int) > 1073741824 ∨ (v2 : Int) > 3 ∨ (v3 : Int) > 1099511627776 ∨ (v4 : Int) > 1099511627776)) ∧ w6 = wx)
      case first =>
        by_cases q0 : (v1 : Int) > 1073741824
        · have HE : Hid (decide ((v1 : Int) > 1073741824 ∨ (v2 : Int) > 3 ∨ (v3 : Int) > 1099511627776 ∨ (v4 : Int) > 1099511627776) = true) := Lib.hid (decide_eq_true (by omega))
          go_wp2
          go_meet
          exact ⟨by rw [HE.out], rfl⟩
        by_cases q1 : (v2 : Int) > 3
        · have HE : Hid (decide ((v1 : Int) > 1073741824 ∨ (v2 : Int) > 3 ∨ (v3 : Int) > 1099511627776 ∨ (v4 : Int) > 1099511627776) = true) := Lib.hid (decide_eq_true (by omega))
          go_wp2
          go_meet
          exact ⟨by rw [HE.out], rfl⟩
        by_cases q2 : (v3 : Int) > 1099511627776
        · have HE : Hid (decide ((v1 : Int) > 1073741824 ∨ (v2 : Int) > 3 ∨ (v3 : Int) > 1099511627776 ∨ (v4 : Int) > 1099511627776) = true) := Lib.hid (decide_eq_true (by omega))
          go_wp2
          go_meet
          exact ⟨by rw [HE.out], rfl⟩
        by_cases q3 : (v4 : Int) > 1099511627776
        · have HE : Hid (decide ((v1 : Int) > 1073741824 ∨ (v2 : Int) > 3 ∨ (v3 : Int) > 1099511627776 ∨ (v4 : Int) > 1099511627776) = true) := Lib.hid (decide_eq_true (by omega))
          go_wp2
          go_meet
          exact ⟨by rw [HE.out], rfl⟩
        have HE : Hid (decide ((v1 : Int) > 1073741824 ∨ (v2 : Int) > 3 ∨ (v3 : Int) > 1099511627776 ∨ (v4 : Int) > 1099511627776) = false) := Lib.hid (decide_eq_false (by omega))
        go_wp2
        go_meet
        exact ⟨by rw [HE.out], rfl⟩
      case rest =>
        obtain ⟨rfl, rfl⟩ := hcut
        have HNL : Hid (b.take (b.length - 4) = cL) := Lib.hid (by rw [HN.out]; exact HCC.out)
        by_cases hlim : (v1 : Int) > 1073741824 ∨ (v2 : Int) > 3 ∨ (v3 : Int) > 1099511627776 ∨ (v4 : Int) > 1099511627776
        · have HR : Hid (readS b = none) := Lib.hid (get_limit (v1 := v1) (p1 := p1) (b1 := b1) (v2 := v2) (p2 := p2) (b2 := b2) (v3 := v3) (p3 := p3) (b3 := b3) (v4 := v4) (p4 := p4) (b4 := b4) HB.out (by rw [HNL.out]; exact H1.out) (by rw [HNL.out]; exact H2.out) (by rw [HNL.out]; exact H3.out) (by rw [HNL.out]; exact H4.out) (by omega))
          rw [decide_eq_true hlim]
          obtain ⟨d0, d1, d2, d3, d4, d5, y0, y1, y2, y3, y4, y5⟩ := HG4.out.sv
          clear hlim
          go_wp2
          (try simp only [Exit.inBlock, Exit.then])
          refine bodyPost_ret (v := .tuple #[.agg #[.int .i64 0, .int .i64 0, .int .i64 0, .int .i64 0, .slice none 0 0, .slice none 0 0], .int .i64 2]) ?_ rfl ?_
          · rw [results_cell_tmp rfl]
            go_simp
          · unfold GetR
            rw [HR.out]
            exact ⟨rfl, by first | with_reducible exact HG4.out.below | with_reducible exact below_set6 HG4.out.below (Nat.le_refl _)⟩
        · rw [decide_eq_false hlim]
          have k1 : IntKind.i64.wrap (v1 : Int) = (v1 : Int) := by rw [IntKind.wrap_i64]; omega
          have k2 : IntKind.i64.wrap (v2 : Int) = (v2 : Int) := by rw [IntKind.wrap_i64]; omega
          have k3 : IntKind.i64.wrap (v3 : Int) = (v3 : Int) := by rw [IntKind.wrap_i64]; omega
          obtain ⟨t, ht⟩ : ∃ t : Int, (v3 : Int) + (v4 : Int) = t := ⟨_, rfl⟩
          have k4 : IntKind.u64.wrap ((v3 : Int) + (v4 : Int)) = t := by rw [IntKind.wrap_u64]; omega
          have k5 : IntKind.i64.wrap t = t := by rw [IntKind.wrap_i64]; omega
          have HTT := Lib.hid ht
          have HV : Hid (v1 ≤ 1073741824 ∧ v2 ≤ 3 ∧ v3 ≤ 1099511627776 ∧ v4 ≤ 1099511627776) := Lib.hid (by omega)
          clear hlim ht l1 l2 l3 l4
          go_upto_region 8 with fail
          have hgt : w.heap.size + 1 < w6.heap.size := HG4.out.pos.lt
          have HG7 : Hid (GI w (w6.alloc (.cells #[.int .i64 v1, .int .i64 v2, .int .i64 v3, .int .i64 t, .slice none 0 0, .slice none 0 0] 25)) C p4 b4) := Lib.hid ⟨HG4.out.pos.below (below_box _ _), HG4.out.sv.below (below_box _ _), past HG4.out.below (below_box _ _)⟩
          have HS7 := Lib.hid (SgV.new w6 v1 v2 v3 t (.slice none 0 0) (.slice none 0 0) 25)
          have HGT := Lib.hid hgt
          have HOK : Hid (In64 (v1 : Int) ∧ In64 (v2 : Int) ∧ In64 (v3 : Int) ∧ In64 t) := Lib.hid (by have := HV.out; have := HTT.out; unfold In64; omega)
          obtain ⟨gS, hgS⟩ : ∃ g, w6.heap.size = g := ⟨_, rfl⟩
          rw [hgS] at HS7 HGT ⊢
          clear hgS hgt HG4
          generalize w6.alloc (.cells #[.int .i64 v1, .int .i64 v2, .int .i64 v3, .int .i64 t, .slice none 0 0, .slice none 0 0] 25) = w7 at *
          go_upto_if 68 with fail
          go_cut [9] (fun c wx => c = .pointer (some ⟨gS, 0, none⟩) ∧ ∃ sm ag bad A n ca B m cb q, Hid ((v2 = 0 ∧ ag = [] ∧ ∃ q, blkAt cL p4 b4 = (sm, q, bad)) ∨ (v2 ≠ 0 ∧ sm = [] ∧ ∃ q, ablkAt cL (wid (v2 : Int)) p4 b4 = (ag, q, bad))) ∧ Hid (GD w wx gS C ⟨v1, v2, v3, t, sm, ag⟩ bad A n ca B m cb q))
          case first =>
            by_cases z : v2 = 0
            · have m1 := block_any cL (w.heap.size + 1) C p4 b4 w7 HG7.out.pos HSI.out HP4.out
              obtain ⟨sm, q, bad, hbl⟩ : ∃ l q d, blkAt cL p4 b4 = (l, q, d) := ⟨_, _, _, rfl⟩
              rw [hbl] at m1
              have M1 := Lib.hid m1
              have HBL := Lib.hid hbl
              subst z
              obtain ⟨c0, c1, c2, c3, c4, c5, z0, z1, z2, z3, z4, z5⟩ := HS7.out
              clear m1 hbl
              go_wp2_with fail
              refine M1.out.mono ?_
              rintro e w8 ⟨V, rfl, hown, hin, hc, hle, hg⟩
              obtain ⟨A, ca, rfl, hd⟩ := GD.samps HG7.out HS7.out HGT.out HOK.out hown hin hc hg
              have HD := Lib.hid hd
              obtain ⟨d0, d1, d2, d3, d4, d5, y0, y1, y2, y3, y4, y5⟩ := HS7.out.grown hg (fun e => by injection e with e; have := HGT.out; omega)
              clear hown hin hc hle hg hd c0 c1 c2 c3 c4 c5 z0 z1 z2 z3 z4 z5
              go_wp2
              go_meet
              exact ⟨rfl, sm, [], bad, A, _, ca, none, 0, 0, q, Lib.hid (.inl ⟨by simp, rfl, _, HBL.out⟩), HD⟩
            · have hk : coarse (v2 : Int) := by have := HV.out; unfold coarse; omega
              have m1 := aggs_any cL (w.heap.size + 1) C p4 b4 (v2 : Int) w7 HG7.out.pos HSI.out HP4.out hk
              obtain ⟨ag, q, bad, hbl⟩ : ∃ l q d, ablkAt cL (wid (v2 : Int)) p4 b4 = (l, q, d) := ⟨_, _, _, rfl⟩
              rw [hbl] at m1
              have M1 := Lib.hid m1
              have HBL := Lib.hid hbl
              have HZ := Lib.hid z
              have hi : ¬ (v2 : Int) = 0 := by omega
              clear m1 hbl z hk
              go_wp2_with fail
              refine M1.out.mono ?_
              rintro e w8 ⟨V, rfl, hown, hin, hc, hle, hg⟩
              obtain ⟨B, cb, rfl, hd⟩ := GD.aggs HG7.out HS7.out HGT.out HOK.out hown hin hc hg
              have HD := Lib.hid hd
              obtain ⟨d0, d1, d2, d3, d4, d5, y0, y1, y2, y3, y4, y5⟩ := HS7.out.grown hg (fun e => by injection e with e; have := HGT.out; omega)
              clear hown hin hc hle hg hd
              go_wp2
              go_meet
              exact ⟨rfl, [], ag, bad, none, 0, 0, B, _, cb, q, Lib.hid (.inr ⟨HZ.out, rfl, _, HBL.out⟩), HD⟩
          case rest =>
            obtain ⟨rfl, sm, ag, bad, A, n', ca, B, m, cb, q, HSY, HD⟩ := hcut
            have HSAYS : Hid ((readS b = some ⟨v1, v2, v3, t, sm, ag⟩ ∧ bad = false ∧ refPut ⟨v1, v2, v3, t, sm, ag⟩ = (b, 0)) ∨ (readS b = none ∧ ¬ (bad = false ∧ refPut ⟨v1, v2, v3, t, sm, ag⟩ = (b, 0)))) := Lib.hid (by
              have ht := HTT.out
              subst ht
              exact get_says (v1 := v1) (p1 := p1) (b1 := b1) (v2 := v2) (p2 := p2) (b2 := b2) (v3 := v3) (p3 := p3) (b3 := b3) (v4 := v4) (p4 := p4) (b4 := b4) HB.out (by rw [HNL.out]; exact H1.out) (by rw [HNL.out]; exact H2.out) (by rw [HNL.out]; exact H3.out) (by rw [HNL.out]; exact H4.out) (by rw [HNL.out]; exact HSY.out) HD.out.seg.at_.ok)
            have m1 := putseg_any HD.out.seg.at_ (HW.out.below HD.out.below)
            have hrb : ∀ c ∈ (refPut ⟨v1, v2, v3, t, sm, ag⟩).1, c < 256 := by
              intro c hc
              unfold refPut at hc
              split at hc
              · split at hc
                · exact bytes_byte _ c hc
                · simp at hc
              · simp at hc
            have hre : ∀ l c, refPut ⟨v1, v2, v3, t, sm, ag⟩ = (l, c) → (c = 0 ∨ 0 < c) := by
              intro l c hc
              unfold refPut at hc
              split at hc
              · split at hc
                · injection hc with _ h; omega
                · injection hc with _ h; omega
              · injection hc with _ h; omega
            obtain ⟨⟨l, c⟩, hR⟩ : ∃ r, refPut ⟨v1, v2, v3, t, sm, ag⟩ = r := ⟨_, rfl⟩
            have hc0 := hre l c hR
            rw [hR] at m1 hrb HSAYS
            have hse := strB_eq hrb HB.out
            obtain ⟨SX, hSX⟩ : ∃ s, strB l = s := ⟨_, rfl⟩
            simp only at hse m1
            rw [hSX, HS.out] at hse
            rw [hSX] at m1
            have M1 := Lib.hid m1
            obtain ⟨c0, c1, c2, c3, c4, c5, z0, z1, z2, z3, z4, z5⟩ := HD.out.sv
            clear m1 hrb hre hR hSX HSY H1 H2 H3 H4 HG7 HS7
            go_wp2_with fail
            refine M1.out.mono ?_
            rintro e wd ⟨rfl, hbd⟩
            have HDD := Lib.hid (HD.out.on hbd)
            clear hbd M1 HD c0 c1 c2 c3 c4 c5 z0 z1 z2 z3 z4 z5
            obtain ⟨r0, r1, r2, _, _⟩ := HDD.out.rd
            obtain ⟨d0, d1, d2, d3, d4, d5, y0, y1, y2, y3, y4, y5⟩ := HDD.out.res
            obtain ⟨c0, c1, c2, c3, c4, c5, z0, z1, z2, z3, z4, z5⟩ := HDD.out.sv
            by_cases hgood : bad = false ∧ l = b ∧ c = 0
            · obtain ⟨rfl, rfl, rfl⟩ := hgood
              have HR : Hid (readS l = some ⟨v1, v2, v3, t, sm, ag⟩) := Lib.hid (by
                rcases HSAYS.out with h | h
                · exact h.1
                · exact absurd ⟨rfl, rfl⟩ h.2)
              rw [decide_eq_true rfl] at hse
              clear HSAYS hc0
              go_wp2
              (try simp only [Exit.inBlock, Exit.then])
              refine bodyPost_ret (v := .tuple #[.agg #[.int .i64 v1, .int .i64 v2, .int .i64 v3, .int .i64 t, .slice A n' ca, .slice B m cb], .int .i64 0]) ?_ rfl ?_
              · rw [results_cell_tmp rfl]
                go_simp
              · unfold GetR
                rw [HR.out]
                exact ⟨⟨A, n', ca, B, m, cb, rfl, by with_reducible exact (HDD.out.seg.set6 (Nat.lt_succ_self _)).at_⟩, by with_reducible exact below_set6 HDD.out.below (Nat.le_refl _)⟩
            have HR : Hid (readS b = none) := Lib.hid (by
              rcases HSAYS.out with h | h
              · refine absurd ⟨h.2.1, ?_, ?_⟩ hgood
                · exact congrArg Prod.fst h.2.2
                · exact congrArg Prod.snd h.2.2
              · exact h.1)
            cases bad with
            | true =>
              clear hgood hse hc0 HSAYS
              go_wp2
              (try simp only [Exit.inBlock, Exit.then])
              refine bodyPost_ret (v := .tuple #[.agg #[.int .i64 0, .int .i64 0, .int .i64 0, .int .i64 0, .slice none 0 0, .slice none 0 0], .int .i64 2]) ?_ rfl ?_
              · rw [results_cell_tmp rfl]
                go_simp
              · unfold GetR
                rw [HR.out]
                exact ⟨rfl, by first | with_reducible exact HDD.out.below | with_reducible exact below_set6 HDD.out.below (Nat.le_refl _)⟩
            | false =>
              rcases hc0 with rfl | hpos
              · rw [decide_eq_false (fun e => hgood ⟨rfl, e, rfl⟩)] at hse
                clear hgood HSAYS
                go_wp2
                (try simp only [Exit.inBlock, Exit.then])
                refine bodyPost_ret (v := .tuple #[.agg #[.int .i64 0, .int .i64 0, .int .i64 0, .int .i64 0, .slice none 0 0, .slice none 0 0], .int .i64 2]) ?_ rfl ?_
                · rw [results_cell_tmp rfl]
                  go_simp
                · unfold GetR
                  rw [HR.out]
                  exact ⟨rfl, by first | with_reducible exact HDD.out.below | with_reducible exact below_set6 HDD.out.below (Nat.le_refl _)⟩
              · clear hgood hse HSAYS
                go_wp2
                (try simp only [Exit.inBlock, Exit.then])
                refine bodyPost_ret (v := .tuple #[.agg #[.int .i64 0, .int .i64 0, .int .i64 0, .int .i64 0, .slice none 0 0, .slice none 0 0], .int .i64 2]) ?_ rfl ?_
                · rw [results_cell_tmp rfl]
                  go_simp
                · unfold GetR
                  rw [HR.out]
                  exact ⟨rfl, by first | with_reducible exact HDD.out.below | with_reducible exact below_set6 HDD.out.below (Nat.le_refl _)⟩
end Go.Proofs.YtepancmkopifpaaGreatDoor
set_option maxRecDepth 100000
namespace Go.Proofs.YtepancmkopifpaaGreatDoor
open Go.RowKit
attribute [local go_sem ↓] Go.wp_at_zero Go.wp_at_succ
set_option linter.unusedVariables false

set_option maxHeartbeats 1000000 in
theorem infoof_any {b : List Nat} (hb : ∀ c ∈ b, c < 256) (hl : b.length ≤ 400) {w : World} (hw : Wid w) :
    Calls Tryz.prog 11 #[.string (strB b)] w (InfoG w b (readS b)) := by
  have m1 := fun u (hu : Below w.heap.size w u) => getseg_any hb hl (hw.below hu)
  have M1 := Lib.hid m1
  have HV0 := Lib.hid (IfV.new w 0 0 0 0 0 38)
  have H4 : Hid (∀ s, readS b = some s → 6 ≤ b.length) := Lib.hid (fun s e => (file_parts ((readS_iff hb).1 e)).1)
  have hsz := strB_size b
  clear m1 hw
  cases hR : readS b with
  | none =>
    rw [hR] at M1
    clear hl hR H4
    generalize strB b = S at *
    go_enter Tryz.func11, Tryz.ntmps11
    go_wp2_with fail
    refine (M1.out _ (below_box _ _)).mono ?_
    rintro e w2 ⟨rfl, hb2⟩
    have HB2 := Lib.hid (past (below_box _ _) hb2)
    obtain ⟨d0, d1, d2, d3, d4, y0, y1, y2, y3, y4⟩ := (HV0.out.below hb2).below (below_box w2 (.cells #[.int .i64 0, .int .i64 0, .int .i64 0, .int .i64 0, .slice none 0 0, .slice none 0 0] 25))
    clear hb2
    go_wp2
    (try simp only [Exit.inBlock, Exit.then])
    refine bodyPost_ret (v := .tuple #[.agg #[.int .i64 0, .int .i64 0, .int .i64 0, .int .i64 0, .int .u32 0], .int .i64 2]) ?_ rfl ?_
    · rw [results_cell_tmp rfl]
      go_simp
    · exact ⟨rfl, below_set5 (past HB2.out (below_box _ _)) (Nat.le_refl _)⟩
  | some s =>
    rw [hR] at M1
    have h6 := H4.out s hR
    have hs1 := fun w => slice_str b (b.length - 4) (by omega) (by omega) w
    obtain ⟨n, hn⟩ : ∃ n, b.length = n := ⟨_, rfl⟩
    rw [hn] at hs1 h6 hl hsz
    obtain ⟨K, hK⟩ : ∃ K, K = n - 4 := ⟨_, rfl⟩
    rw [← hK] at hs1
    have i0 : IntKind.i64.wrap ((n : Int) - 4) = (K : Int) := by rw [IntKind.wrap_i64]; omega
    have m2 : ∀ u, _ := fun u => refof_any (b.take K) u (fun c hc => hb c (List.mem_of_mem_take hc)) (by rw [List.length_take]; omega)
    have HK : Hid (b.take (b.length - 4) = b.take K) := Lib.hid (by rw [hn, hK])
    have M2 := Lib.hid m2
    obtain ⟨S, hS⟩ : ∃ S, more 1 (b.take K) = S := ⟨_, rfl⟩
    rw [hS] at M2
    have HS := Lib.hid hS
    obtain ⟨i, k, f, t, sm, ag⟩ := s
    clear hl hR H4 hK h6 m2 hS
    generalize strB (b.take K) = ST at *
    generalize strB b = SB at *
    go_enter Tryz.func11, Tryz.ntmps11
    go_wp2_with fail
    refine (M1.out _ (below_box _ _)).mono ?_
    rintro e w2 ⟨⟨A2, n2, ca2, B2, m2, cb2, rfl, hsg⟩, hb2⟩
    have HB2 := Lib.hid (past (past (below_box _ _) hb2) (below_box w2 (.cells #[.int .i64 i, .int .i64 k, .int .i64 f, .int .i64 t, .slice A2 n2 ca2, .slice B2 m2 cb2] 25)))
    have hS2 : w.heap.size < w2.heap.size := by have := hb2.size; simp at this; omega
    have HV2 := Lib.hid ((HV0.out.below hb2).below (below_box w2 (.cells #[.int .i64 i, .int .i64 k, .int .i64 f, .int .i64 t, .slice A2 n2 ca2, .slice B2 m2 cb2] 25)))
    have HG2 := Lib.hid (SgV.new w2 i k f t (.slice A2 n2 ca2) (.slice B2 m2 cb2) 25)
    have hne : w.heap.size ≠ w2.heap.size := Nat.ne_of_lt hS2
    have hne' : w2.heap.size ≠ w.heap.size := fun h => hne h.symm
    clear hb2 hsg hS2
    go_upto_region 4 with fail
    generalize hw3 : w2.alloc (.cells #[.int .i64 i, .int .i64 k, .int .i64 f, .int .i64 t, .slice A2 n2 ca2, .slice B2 m2 cb2] 25) = w3 at *
    obtain ⟨d0, d1, d2, d3, d4, y0, y1, y2, y3, y4⟩ := HV2.out
    obtain ⟨r0, r1, r2, r3, r4, r5, s0, s1, s2, s3, s4, s5⟩ := HG2.out
    clear hw3
    have HM3 : Hid (∀ m, Calls Tryz.prog 28 #[.string ST] (w3.drewN m) fun e w' => e = .returned (.int .u32 (S : Int)) ∧ w3.drewN m = w') := Lib.hid (fun m => M2.out _)
    generalize hgS : w2.heap.size = gS at *
    generalize hg0 : w.heap.size = g0 at *
    have HG0 := Lib.hid hg0
    clear hgS hg0
    have HNE := Lib.hid hne'
    have HST : Hid (∀ m, (w3.drewN m).cell? ⟨gS, 0, none⟩ = some (.int .i64 i) ∧ (w3.drewN m).cell? ⟨gS, 1, none⟩ = some (.int .i64 k) ∧ (w3.drewN m).cell? ⟨gS, 2, none⟩ = some (.int .i64 f) ∧ (w3.drewN m).cell? ⟨gS, 3, none⟩ = some (.int .i64 t)) := Lib.hid (fun m => ⟨r0, r1, r2, r3⟩)
    have HSD : Hid (w3.drew.cell? ⟨gS, 0, none⟩ = some (.int .i64 i) ∧ w3.drew.cell? ⟨gS, 1, none⟩ = some (.int .i64 k) ∧ w3.drew.cell? ⟨gS, 2, none⟩ = some (.int .i64 f) ∧ w3.drew.cell? ⟨gS, 3, none⟩ = some (.int .i64 t)) := Lib.hid ⟨r0, r1, r2, r3⟩
    go_region_held3 (fun w' => w'.cell? ⟨gS, 0, none⟩ = some (.int .i64 i) ∧ w'.cell? ⟨gS, 1, none⟩ = some (.int .i64 k) ∧ w'.cell? ⟨gS, 2, none⟩ = some (.int .i64 f) ∧ w'.cell? ⟨gS, 3, none⟩ = some (.int .i64 t))
      (first
        | with_reducible exact HSD.out
        | with_reducible exact HST.out 1
        | with_reducible exact HST.out 0
        | (with_reducible refine four_set5 _ _ _ _ _ HNE.out ?_; first | with_reducible exact HSD.out | with_reducible exact HST.out 1))
      (first | (go_at_call 28; refine (HM3.out _).mono ?_; rintro e w5 ⟨rfl, rfl⟩))
    all_goals
      go_wp2
      (try simp only [Exit.inBlock, Exit.then])
      refine bodyPost_ret (v := .tuple #[.agg #[.int .i64 i, .int .i64 k, .int .i64 f, .int .i64 t, .int .u32 (S : Int)], .int .i64 0]) ?_ rfl ?_
      · rw [results_cell_tmp rfl]
        go_simp
      · have := HG0.out
        subst this
        refine ⟨?_, below_set5 (past HB2.out (belowN _ _)) (Nat.le_refl _)⟩
        rw [HK.out, HS.out]
end Go.Proofs.YtepancmkopifpaaGreatDoor
