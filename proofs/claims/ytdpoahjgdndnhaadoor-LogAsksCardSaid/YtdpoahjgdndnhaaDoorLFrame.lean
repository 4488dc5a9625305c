/-
  log.framed, Frame: what each returns; nothing that was there is written.
-/
import Derived.Test.YtdpoahjgdndnhaaDoorLMath
import Derived.Test.YtdpoahjgdndnhaaDoorLByte
import Derived.Test.YtdpoahjgdndnhaaDoorEPut
import Derived.Test.YtdpoahjgdndnhaaDoorEReadW
set_option maxRecDepth 100000
namespace Go.Proofs.YtdpoahjgdndnhaaDoor
open Go.RowKit
attribute [local go_sem ↓] Go.wp_at_zero Go.wp_at_succ
set_option linter.unusedVariables false

theorem bytesV_four (R : Nat) (h : R < 4294967296) : bytesV (four R) = (#[Value.int IntKind.u8 ((R : Int) % 256), Value.int IntKind.u8 ((R : Int) / 256 % 256), Value.int IntKind.u8 ((R : Int) / 65536 % 256), Value.int IntKind.u8 ((R : Int) / 16777216 % 256)] : Array Value).toList := by
  unfold bytesV four
  simp only [List.map_cons, List.map_nil]
  simp
theorem brow_four (w : World) (R : Nat) (h : R < 4294967296) : BRow (w.alloc (.cells #[Value.int IntKind.u8 ((R : Int) % 256), Value.int IntKind.u8 ((R : Int) / 256 % 256), Value.int IntKind.u8 ((R : Int) / 65536 % 256), Value.int IntKind.u8 ((R : Int) / 16777216 % 256)] 5)) (some ⟨w.heap.size, 0, Option.none⟩) 4 4 (four R) := by
  have e := World.ownsRow_lit (size := 1) (e := 5) (base := w.heap.size) w #[Value.int IntKind.u8 ((R : Int) % 256), Value.int IntKind.u8 ((R : Int) / 256 % 256), Value.int IntKind.u8 ((R : Int) / 65536 % 256), Value.int IntKind.u8 ((R : Int) / 16777216 % 256)] 4 (Nat.le_refl _) (by unfold maxLen; omega) rfl
  rw [← bytesV_four R h] at e
  exact brow_of_own0 e (four_byte R)
theorem own_le {w : World} {base base' size n : Nat} {e : TypeId} {v : Value} {xs : List Value} (h : w.ownsRow base e size v n xs) (hb : base' ≤ base) : w.ownsRow base' e size v n xs := by
  refine ⟨h.1, ?_⟩
  rcases h.2 with h | ⟨g, cap, cur, e1, e2, r⟩
  · exact .inl h
  · exact .inr ⟨g, cap, cur, e1, Nat.le_trans hb e2, r⟩
theorem concat_three {w : World} {A0 A1 A2 : Option Addr} {n0 n1 n2 c0 c1 c2 : Nat} {b0 b1 b2 : List Nat} {g : Nat} (r0 : BRow w A0 n0 c0 b0) (r1 : BRow w A1 n1 c1 b1) (r2 : BRow w A2 n2 c2 b2) (hg : g = w.heap.size)
    (h0 : 0 < (b0 ++ (b1 ++ b2)).length) (hl : (b0 ++ (b1 ++ b2)).length ≤ 100000) :
    Calls Tryd.prog 77 #[.slice (some ⟨g, 0, none⟩) 3 3] (w.alloc (.cells #[.slice A0 n0 c0, .slice A1 n1 c1, .slice A2 n2 c2] 26))
      fun e w' => ∃ v, e = .returned v ∧ w'.ownsRow w.heap.size 5 1 v (b0 ++ (b1 ++ b2)).length (bytesV (b0 ++ (b1 ++ b2))) ∧ Below w.heap.size w w' := by
  subst hg
  obtain ⟨rs, hrs⟩ : ∃ rs : Nat → Option Addr × Nat × Nat × List Nat, rs = fun j => match j with | 0 => (A0, n0, c0, b0) | 1 => (A1, n1, c1, b1) | _ => (A2, n2, c2, b2) := ⟨_, rfl⟩
  have hcat : catN (fun j => (rs j).2.2.2) 3 = b0 ++ (b1 ++ b2) := by
    rw [hrs]
    simp [catN]
  have h := concatB_any (g := w.heap.size) (c := 3) (k := 3) (n := (b0 ++ (b1 ++ b2)).length) (A := fun j => (rs j).1) (N := fun j => (rs j).2.1) (C := fun j => (rs j).2.2.1) (D := fun j => (rs j).2.2.2)
    (w := w.alloc (.cells #[.slice A0 n0 c0, .slice A1 n1 c1, .slice A2 n2 c2] 26))
    (fun j hj => by
      rw [hrs]
      match j, hj with
      | 0, _ => exact r0.below (below_box _ _)
      | 1, _ => exact r1.below (below_box _ _)
      | 2, _ => exact r2.below (below_box _ _))
    (fun j hj => by
      rw [hrs]
      match j, hj with
      | 0, _ => simp
      | 1, _ => simp
      | 2, _ => simp) (Nat.le_refl _) (by omega) (by rw [hcat]) h0 hl
  refine h.mono ?_
  rintro e w' ⟨v, rfl, hown, hb⟩
  rw [hcat] at hown
  exact ⟨v, rfl, own_le hown (by simp), past (below_box _ _) hb⟩

/-- What a call that makes a row of bytes leaves. -/
def OwnB (w : World) (bs : List Nat) (e : Ending) (w' : World) : Prop := ∃ g cap, e = .returned (.slice (some ⟨g, 0, none⟩) bs.length cap) ∧ w'.ownsRow w.heap.size 5 1 (.slice (some ⟨g, 0, none⟩) bs.length cap) bs.length (bytesV bs) ∧ Below w.heap.size w w'
theorem own_some {w : World} {base size n : Nat} {e : TypeId} {v : Value} {xs : List Value} (h : w.ownsRow base e size v n xs) (h0 : 0 < n) : ∃ g cap, v = .slice (some ⟨g, 0, none⟩) n cap := by
  rcases h.2 with ⟨_, e0⟩ | ⟨g, cap, cur, e1, _⟩
  · omega
  · exact ⟨g, cap, e1⟩
set_option maxHeartbeats 4000000 in
theorem framed_any {A : Option Addr} {n cap : Nat} {bs : List Nat} {w : World} (h : BRow w A n cap bs) (hl : n ≤ 90000) :
    Calls Tryd.prog 59 #[.slice A n cap] w (OwnB w (frm bs)) := by
  have hlen := h.len
  have i1 : IntKind.u64.wrap (n : Int) = (n : Int) := by rw [IntKind.wrap_u64]; omega
  have HX : Hid (Later w fun u => BRow u A n cap bs ∧ Below w.heap.size w u) := Lib.hid (fun u hu => ⟨h.below hu, hu⟩)
  have hel := enc_len_le (n := n) (by omega)
  have HL := Lib.hid hlen
  have HLL : Hid ((enc n).length ≤ 10 ∧ n ≤ 90000) := Lib.hid ⟨hel, hl⟩
  clear h hlen hel
  go_enter Tryd.func59, Tryd.ntmps59
  go_wp2_with fail
  refine (put_any n w (by omega)).mono ?_
  rintro e w2 ⟨g, c, rfl, hown, hb⟩
  have HR2 : Hid (Later w2 fun u => BRow u (some ⟨g, 0, none⟩) (enc n).length c (enc n)) := Lib.hid (fun u hu => (brow_of_own0 hown (enc_byte n)).below hu)
  have HX2 := Lib.hid (HX.out.on hb)
  clear hown hb HX
  have m1 := of_any HR2.out.now.len HR2.out.now.bytes HR2.out.now.le HR2.out.now.max
  have M1 := Lib.hid m1
  have hlt := more32 1 (enc n)
  have hlt2 := more32 (more 1 (enc n)) bs
  have m2 := more_any (more 1 (enc n)) (w := w2) HX2.out.now.1.len HX2.out.now.1.bytes HX2.out.now.1.le HX2.out.now.1.max hlt
  have M2 := Lib.hid m2
  have HF : Hid (more (more 1 (enc n)) bs = more 1 (enc bs.length ++ bs)) := Lib.hid (by rw [more_append, HL.out])
  generalize more 1 (enc n) = R1 at *
  generalize more R1 bs = R2 at *
  clear m1 m2
  go_wp2_with fail
  refine M1.out.mono ?_
  rintro e w3 ⟨rfl, rfl⟩
  go_wp2_with fail
  refine M2.out.mono ?_
  rintro e w3 ⟨rfl, rfl⟩
  clear M1 M2
  have hb3 := below_box w2 (.cells #[Value.int IntKind.u8 ((R2 : Int) % 256), Value.int IntKind.u8 ((R2 : Int) / 256 % 256), Value.int IntKind.u8 ((R2 : Int) / 65536 % 256), Value.int IntKind.u8 ((R2 : Int) / 16777216 % 256)] 5)
  have m3 := concat_three (g := w2.heap.size + 1) (HR2.out _ hb3) (brow_four w2 R2 hlt2) (HX2.out _ hb3).1 (by simp) (by have := enc_ne n; rw [List.length_append]; omega) (by
    rw [List.length_append, List.length_append, four_len, HL.out]
    have := HLL.out
    omega)
  have HFR : Hid (enc n ++ (four R2 ++ bs) = frm bs) := Lib.hid (by rw [HF.out]; unfold frm; rw [HL.out])
  rw [HFR.out] at m3
  have M3 := Lib.hid m3
  have HB3 := Lib.hid (past HX2.out.now.2 hb3)
  clear m3 hb3 HR2 HX2 hlt hlt2
  go_wp2_with fail
  refine M3.out.mono ?_
  rintro e w4 ⟨v, rfl, hown, hb⟩
  have HBF := Lib.hid (past HB3.out hb)
  have hsz := HB3.out.size
  have HO : Hid (w4.ownsRow w.heap.size 5 1 v (frm bs).length (bytesV (frm bs))) := Lib.hid (own_le hown hsz)
  clear hown hb M3 hsz
  go_wp2
  go_ret
  obtain ⟨g4, c4, rfl⟩ := own_some HO.out (by have := frm_pos bs; omega)
  exact ⟨g4, c4, rfl, HO.out, HBF.out⟩
set_option maxHeartbeats 4000000 in
theorem frame_ent (e : Ent) (w : World) (he : e.ok) (hw : Nam w) (hn : 0 < w.heap.size) : Calls Tryd.prog 26 #[e.val] w (PutEPost e.frame.1 e.frame.2 w) := by
  have hb0 : Below w.heap.size w (w.alloc (.cells #[.int .i64 e.kd, .int .i64 e.vw, .int .i64 e.id, .int .i64 e.tr, .int .i64 e.fr, .int .i64 e.tl, .int .u32 e.sm, .string ⟨e.tx.toArray⟩] 25)) := below_box _ _
  have hbox := EV.new w e
  obtain ⟨c0, c1, c2, c3, c4, c5, c6, c7, _⟩ := hbox
  have MP := put_ent e _ he (hw.below hn hb0) (Nat.lt_of_lt_of_le hn hb0.size)
  by_cases h : e.may
  · have e1 : e.put = (e.bytes, 0) := by unfold Ent.put; rw [if_pos h]
    have e2 : e.frame = (frm e.bytes, 0) := by unfold Ent.frame; rw [if_pos h]
    rw [e1] at MP
    rw [e2]
    have M := Lib.hid MP
    have HLEN := Lib.hid (bytes_short h he)
    have HB0 := Lib.hid hb0
    clear MP h e1 e2 he hw hn hb0
    unfold Ent.val str PutEPost at *
    go_enter Tryd.func26, Tryd.ntmps26
    go_wp2_with fail
    refine M.out.mono ?_
    rintro en w2 ⟨A, cap, rfl, hr, hb, _⟩
    clear c0 c1 c2 c3 c4 c5 c6 c7 M
    have M2 := Lib.hid (framed_any hr (by have := HLEN.out; omega))
    have HB2 := Lib.hid (past HB0.out hb)
    have HFB := Lib.hid (frm_byte hr.bytes.1)
    clear hr hb
    go_wp2_with fail
    refine M2.out.mono ?_
    rintro en w3 ⟨g, c3, rfl, hown, hb⟩
    have HB3 := Lib.hid (past HB2.out hb)
    have HR := Lib.hid (brow_of_own0 hown HFB.out)
    have HG : Hid (w.heap.size ≤ g) := Lib.hid (by have := (hown.lt g rfl).1; have := HB2.out.size; omega)
    clear hown hb M2
    go_wp2
    go_ret2
    exact ⟨_, _, rfl, HR.out, HB3.out, fun ad e => by cases e; exact HG.out⟩
  · have e1 : e.put = ([], 1) := by unfold Ent.put; rw [if_neg h]
    have e2 : e.frame = ([], 1) := by unfold Ent.frame; rw [if_neg h]
    rw [e1] at MP
    rw [e2]
    have M := Lib.hid MP
    have HB0 := Lib.hid hb0
    clear MP h e1 e2 he hw hn hb0
    unfold Ent.val str PutEPost at *
    go_enter Tryd.func26, Tryd.ntmps26
    go_wp2_with fail
    refine M.out.mono ?_
    rintro en w2 ⟨A, cap, rfl, hr, hb, _⟩
    clear c0 c1 c2 c3 c4 c5 c6 c7 M
    have HB2 := Lib.hid (past HB0.out hb)
    clear hr hb
    go_wp2
    go_ret2
    exact ⟨none, 0, rfl, BRow.none _, HB2.out, fun ad e => by cases e⟩
end Go.Proofs.YtdpoahjgdndnhaaDoor
