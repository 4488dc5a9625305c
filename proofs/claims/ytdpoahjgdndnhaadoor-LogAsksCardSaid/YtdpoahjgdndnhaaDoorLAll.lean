/-
  log.All: what it returns; nothing that was there is written.
-/
import Derived.Test.YtdpoahjgdndnhaaDoorLRead
set_option maxRecDepth 100000
namespace Go.Proofs.YtdpoahjgdndnhaaDoor
open Go.RowKit
attribute [local go_sem ↓] Go.wp_at_zero Go.wp_at_succ
set_option linter.unusedVariables false

theorem allB_take (l : List Ent) (i : Nat) : (allB (l.take i)).length ≤ (allB l).length := by
  conv => rhs; rw [← List.take_append_drop i l, allB_append, List.length_append]
  omega
/-- Amid All. -/
structure AI (w wr : World) (v : Value) (l : List Ent) (i : Nat) : Prop where
  own : wr.ownsRow w.heap.size 5 1 v (allB (l.take i)).length (bytesV (allB (l.take i)))
  below : Below w.heap.size w wr
  may : ∀ j, j < i → (l.getD j Ent.zero).may
  byte : ∀ c ∈ allB (l.take i), c < 256
theorem AI.on {w wr wx : World} {v : Value} {l : List Ent} {i : Nat} (h : AI w wr v l i) (hb : Below wr.heap.size wr wx) : AI w wx v l i := ⟨own_on h.own hb, past h.below hb, h.may, h.byte⟩
theorem allMay_of {l : List Ent} (h : ∀ j, j < l.length → (l.getD j Ent.zero).may) : allMay l := by
  intro e he
  obtain ⟨j, hj, rfl⟩ := List.mem_iff_getElem.1 he
  have := h j hj
  rw [List.getD_eq_getElem?_getD, List.getElem?_eq_getElem hj] at this
  exact this
set_option maxHeartbeats 4000000 in
theorem all_log {A : Option Addr} {n cap : Nat} {l : List Ent} {w : World} (h : EntRow w A n cap l) (hl : (allB l).length ≤ 100000) (hw : Nam w) (h0 : 0 < w.heap.size) : Calls Tryd.prog 27 #[.slice A n cap] w (PutEPost (allE l).1 (allE l).2 w) := by
  obtain ⟨R, hR⟩ : ∃ R, R = allE l := ⟨_, rfl⟩
  rw [← hR]
  have HR := Lib.hid hR
  have HN := Lib.hid h.len
  have hle := h.le
  have hmax := h.max
  unfold maxLen at hmax
  have HU : Hid (∀ u, Below w.heap.size w u → Nam u ∧ 0 < u.heap.size) := Lib.hid (fun u hu => ⟨hw.below h0 hu, Nat.lt_of_lt_of_le h0 hu.size⟩)
  have HROW : Hid (∀ u, Below w.heap.size w u → EntRow u A n cap l) := Lib.hid (fun u hu => h.below hu)
  have HL := Lib.hid hl
  clear hR h hw h0 hl
  unfold PutEPost
  go_enter Tryd.func27, Tryd.ntmps27
  go_wp2
  go_loopw [4, 11] (fun s4 s11 wr => ∃ (i : Nat), s11 = .int .i64 (i : Int) ∧ i ≤ n ∧ (∃ A4 c4, s4 = .slice A4 (allB (l.take i)).length c4) ∧ Hid (AI w wr s4 l i)) (fun _ si _ => n - (intOf si).toNat)
  case atStart => exact ⟨0, rfl, Nat.zero_le _, ⟨none, 0, rfl⟩, Lib.hid ⟨World.ownsRow_nil _ _ _ _, Below.refl _ _, fun j hj => absurd hj (by omega), fun c hc => by simp [allB_nil] at hc⟩⟩
  case round =>
    obtain ⟨i, rfl, hi, ⟨A4, c4, rfl⟩, HI⟩ := hrel
    by_cases hlt : i < n
    case neg =>
      obtain rfl : i = n := by omega
      have i1 : ¬ (i : Int) < (i : Int) := by omega
      have hall : allMay l := allMay_of (fun j hj => HI.out.may j (by rw [← HN.out]; exact hj))
      have htk : l.take i = l := List.take_of_length_le (by rw [HN.out]; omega)
      rw [htk] at HI ⊢
      by_cases hbig : 2000 < i
      · have hRR : R = ([], 8) := by rw [HR.out]; unfold allE; rw [if_pos hall, if_pos (by rw [HN.out]; exact hbig)]
        have i2 : (i : Int) > 2000 := by omega
        clear hall htk
        subst hRR
        go_wp2
        (try rw [Exit.noGoto_ret])
        go_ret2
        exact ⟨none, 0, rfl, BRow.none _, HI.out.below, fun ad e => by cases e⟩
      · have hRR : R = (allB l, 0) := by rw [HR.out]; unfold allE; rw [if_pos hall, if_neg (by rw [HN.out]; exact hbig)]
        have i2 : ¬ (i : Int) > 2000 := by omega
        clear hall htk
        subst hRR
        have HROWF : Hid (∃ A' cap', Value.slice A4 (allB l).length c4 = .slice A' (allB l).length cap' ∧ BRow wr A' (allB l).length cap' (allB l) ∧ ∀ a, A' = some a → w.heap.size ≤ a.block) := Lib.hid (by
          have hb := HI.out.byte
          have htk : l.take i = l := List.take_of_length_le (by rw [HN.out]; omega)
          have ho := HI.out.own
          rw [htk] at hb ho
          obtain ⟨A', cap', e, h⟩ := brow_of_own ho hb
          exact ⟨A', cap', e, h⟩)
        go_wp2
        (try rw [Exit.noGoto_ret])
        go_ret2
        obtain ⟨A', cap', e, h, hf⟩ := HROWF.out
        injection e with e1 e2 e3
        subst e1 e3
        exact ⟨_, _, rfl, h, HI.out.below, hf⟩
    have i1 : (i : Int) < (n : Int) := by omega
    have i0 : (0 : Int) ≤ (i : Int) := by omega
    obtain ⟨e, he⟩ : ∃ e, l.getD i Ent.zero = e := ⟨_, rfl⟩
    obtain ⟨b, off, hA, hbl, hcs⟩ := (HROW.out _ HI.out.below).cells (by omega)
    obtain ⟨c0, c1, c2, c3, c4_, c5, c6, c7⟩ := hcs i hlt
    have hok : e.ok := by rw [← he]; exact (HROW.out _ HI.out.below).ok _ (getD_mem_ent (by rw [HN.out]; exact hlt))
    rw [he] at c0 c1 c2 c3 c4_ c5 c6 c7
    have HE := Lib.hid he
    clear hcs he hbl
    subst hA
    unfold str at c7
    go_upto_region 5 with fail
    have hbx := below_box wr (.cells #[.int .i64 e.kd, .int .i64 e.vw, .int .i64 e.id, .int .i64 e.tr, .int .i64 e.fr, .int .i64 e.tl, .int .u32 e.sm, .string ⟨e.tx.toArray⟩] 25)
    have HI2 := Lib.hid (HI.out.on hbx)
    have hbox := EV.new wr e
    clear hbx HI c0 c1 c2 c3 c4_ c5 c6 c7
    generalize wr.alloc (.cells #[.int .i64 e.kd, .int .i64 e.vw, .int .i64 e.id, .int .i64 e.tr, .int .i64 e.fr, .int .i64 e.tl, .int .u32 e.sm, .string ⟨e.tx.toArray⟩] 25) = w3 at *
    generalize wr.heap.size = g2 at *
    obtain ⟨c0, c1, c2, c3, c4_, c5, c6, c7, _⟩ := hbox
    have M := Lib.hid (frame_ent e w3 hok (HU.out _ HI2.out.below).1 (HU.out _ HI2.out.below).2)
    have HOK := Lib.hid hok
    unfold Ent.val str PutEPost at M
    clear hok
    by_cases hm : e.may
    case neg =>
      have hfr : e.frame = ([], 1) := by unfold Ent.frame; rw [if_neg hm]
      have hRR : R = ([], 1) := by
        rw [HR.out]
        unfold allE
        rw [if_neg (fun h => hm (by rw [← HE.out]; exact h _ (getD_mem_ent (by rw [HN.out]; exact hlt))))]
      rw [hfr] at M
      clear hm hfr
      subst hRR
      go_wp2_with fail
      refine M.out.mono ?_
      rintro en w4 ⟨A', cap', rfl, hr, hb, _⟩
      have HB4 := Lib.hid (past HI2.out.below hb)
      clear hr hb M c0 c1 c2 c3 c4_ c5 c6 c7
      go_wp2
      (try rw [Exit.noGoto_ret])
      go_ret2
      exact ⟨none, 0, rfl, BRow.none _, HB4.out, fun ad e => by cases e⟩
    have hfr : e.frame = (frm e.bytes, 0) := by unfold Ent.frame; rw [if_pos hm]
    rw [hfr] at M
    have HM := Lib.hid hm
    clear hm hfr
    simp only at M
    go_wp2_with fail
    refine M.out.mono ?_
    rintro en w4 ⟨A', cap', rfl, hr, hb, _⟩
    have hsn : allB (l.take (i + 1)) = allB (l.take i) ++ frm e.bytes := by rw [allB_snoc (by rw [HN.out]; exact hlt), HE.out]
    have HI4 := Lib.hid (HI2.out.on hb)
    have HFR := Lib.hid hr
    have HBIG : Hid ((allB (l.take i)).length + (frm e.bytes).length ≤ 100000) := Lib.hid (by
      have := allB_take l (i + 1)
      rw [hsn, List.length_append] at this
      have := HL.out
      omega)
    have HN2 : Hid (∀ v2 wx, wx.ownsRow w.heap.size 5 1 v2 ((allB (l.take i)).length + (frm e.bytes).length) (bytesV (allB (l.take i) ++ frm e.bytes)) → Below w.heap.size w wx → AI w wx v2 l (i + 1) ∧ ∃ A4 c4, v2 = .slice A4 (allB (l.take (i + 1))).length c4) := Lib.hid (fun v2 wx ho hbw => by
      have hlen : (allB (l.take (i + 1))).length = (allB (l.take i)).length + (frm e.bytes).length := by rw [hsn, List.length_append]
      refine ⟨⟨by rw [hlen, hsn]; exact ho, hbw, fun j hj => ?_, fun c hc => ?_⟩, ?_⟩
      · rcases Nat.lt_or_ge j i with h | h
        · exact HI4.out.may j h
        · obtain rfl : j = i := by omega
          rw [HE.out]; exact HM.out
      · rw [hsn, List.mem_append] at hc
        rcases hc with hc | hc
        · exact HI4.out.byte c hc
        · exact hr.bytes.1 c hc
      · obtain ⟨g', c', e'⟩ := own_some ho (by have := frm_pos e.bytes; omega)
        exact ⟨_, c', by rw [e', hlen]⟩)
    clear hsn hr hb M c0 c1 c2 c3 c4_ c5 c6 c7
    go_wp2_with (at_builtin; refine wpList_append_brow rfl _ _ rfl w.heap.size _ (allB (l.take i)).length (frm e.bytes).length (allB (l.take i)) (frm e.bytes) rfl HI4.out.own A' cap' rfl HFR.out HBIG.out HI4.out.below.size ?_)
    intro v5 w5 hown hgrow
    have HX := Lib.hid (HN2.out v5 w5 hown (HI4.out.below.grown hgrow HI4.out.below.size (fun k h => (HI4.out.own.lt k h).1)))
    clear hown hgrow HN2
    go_wp2
    go_roundw
    case rel => exact ⟨i + 1, by go_num, by omega, HX.out.2, Lib.hid HX.out.1⟩
    case measure => simp [intOf]; omega
end Go.Proofs.YtdpoahjgdndnhaaDoor
