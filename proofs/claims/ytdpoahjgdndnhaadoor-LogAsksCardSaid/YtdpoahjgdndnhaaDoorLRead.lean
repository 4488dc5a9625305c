/-
  log.Read, All: what each returns; nothing that was there is written.
-/
import Derived.Test.YtdpoahjgdndnhaaDoorLFirst
import Derived.Test.YtdpoahjgdndnhaaDoorLRow
set_option maxRecDepth 100000
namespace Go.Proofs.YtdpoahjgdndnhaaDoor
open Go.RowKit
attribute [local go_sem ↓] Go.wp_at_zero Go.wp_at_succ
set_option linter.unusedVariables false

def readL (bs : List Nat) : List Ent × Nat := readN 2000 bs
theorem own_on {w w' : World} {base size n : Nat} {e : TypeId} {v : Value} {xs : List Value} (h : w.ownsRow base e size v n xs) (hb : Below w.heap.size w w') : w'.ownsRow base e size v n xs :=
  h.kept (row := none) ⟨hb.os, hb.tape, hb.output, hb.size, fun k hk _ => hb.block k hk⟩ (by cases v.ownBlock <;> simp)
/-- Amid the reading. -/
structure RI (w wr : World) (v : Value) (l : List Ent) (p : Nat) (bs : List Nat) : Prop where
  own : wr.ownsRow w.heap.size 25 8 v l.length (entV l)
  below : Below w.heap.size w wr
  ok : ∀ e ∈ l, e.ok
  len : l.length ≤ 2000
  le : p ≤ bs.length
  says : readN 2000 bs = (l ++ (readN (2000 - l.length) (bs.drop p)).1, p + (readN (2000 - l.length) (bs.drop p)).2)
theorem RI.on {w wr wx : World} {v : Value} {l : List Ent} {p : Nat} {bs : List Nat} (h : RI w wr v l p bs) (hb : Below wr.heap.size wr wx) : RI w wx v l p bs :=
  ⟨own_on h.own hb, past h.below hb, h.ok, h.len, h.le, h.says⟩
theorem RI.next {w wr wx : World} {v v2 : Value} {l : List Ent} {p : Nat} {bs : List Nat} (h : RI w wr v l p bs) (hlt : l.length < 2000) (hb : ∀ c ∈ bs, c < 256) (hl : bs.length ≤ 90000) (h0 : (first (bs.drop p)).2 ≠ 0)
    (ho : wx.ownsRow w.heap.size 25 8 v2 (l.length + 1) (entV (l ++ [(first (bs.drop p)).1]))) (hbx : Below w.heap.size w wx) : RI w wx v2 (l ++ [(first (bs.drop p)).1]) (p + (first (bs.drop p)).2) bs := by
  obtain ⟨f1, f2, f3, f4, f5⟩ := first_only (b := bs.drop p) (fun c hc => hb c (List.mem_of_mem_drop hc)) (by rw [List.length_drop]; omega) h0
  refine ⟨by rw [List.length_append]; exact ho, hbx, fun e he => ?_, ?_, ?_, ?_⟩
  · rcases List.mem_append.1 he with he | he
    · exact h.ok e he
    · rw [List.mem_singleton] at he; rw [he]; exact f2
  · rw [List.length_append]; simp only [List.length_singleton]; omega
  · rw [List.length_drop] at f5; have := h.le; omega
  · rw [h.says]
    obtain ⟨k, hk⟩ : ∃ k, 2000 - l.length = k + 1 := ⟨2000 - l.length - 1, by omega⟩
    have hk2 : 2000 - (l ++ [(first (bs.drop p)).1]).length = k := by rw [List.length_append]; simp only [List.length_singleton]; omega
    rw [hk, hk2, readN, if_neg h0, List.drop_drop]
    simp only [List.append_assoc, List.singleton_append]
    rw [Nat.add_assoc]
theorem RI.stop {w wr : World} {v : Value} {l : List Ent} {p : Nat} {bs : List Nat} (h : RI w wr v l p bs) (h0 : l.length = 2000 ∨ (first (bs.drop p)).2 = 0) : readN 2000 bs = (l, p) := by
  rw [h.says]
  rcases h0 with h0 | h0
  · rw [h0]; simp [readN]
  · rw [readN_zero _ h0]; simp
def ReadLPost (w : World) (R : List Ent × Nat) (e : Ending) (w' : World) : Prop :=
  ∃ A' cap', e = .returned (.tuple #[.slice A' R.1.length cap', .int .i64 (R.2 : Int)]) ∧ EntRow w' A' R.1.length cap' R.1 ∧ Below w.heap.size w w'
set_option maxHeartbeats 4000000 in
theorem read_log {A : Option Addr} {n cap : Nat} {bs : List Nat} {w : World} (hr : BRow w A n cap bs) (hl : n ≤ 90000) (hw : Nam w) (h0 : 0 < w.heap.size) : Calls Tryd.prog 28 #[.slice A n cap] w (ReadLPost w (readL bs)) := by
  obtain ⟨R, hR⟩ : ∃ R, R = readL bs := ⟨_, rfl⟩
  rw [← hR]
  have HR := Lib.hid hR
  have HN := Lib.hid hr.len
  have HBY := Lib.hid hr.bytes.1
  have HU : Hid (∀ u, Below w.heap.size w u → Nam u ∧ 0 < u.heap.size) := Lib.hid (fun u hu => ⟨hw.below h0 hu, Nat.lt_of_lt_of_le h0 hu.size⟩)
  have HROW : Hid (∀ u, Below w.heap.size w u → BRow u A n cap bs) := Lib.hid (fun u hu => hr.below hu)
  clear hR hr hw h0
  go_enter Tryd.func28, Tryd.ntmps28
  go_wp2
  go_step3
  go_wp2
  go_step3
  go_wp2
  go_loopw [4, 5] (fun s4 s5 wr => ∃ (l : List Ent) (p : Nat), s5 = .int .i64 (p : Int) ∧ p ≤ n ∧ (∃ A4 c4, s4 = .slice A4 l.length c4) ∧ Hid (RI w wr s4 l p bs)) (fun _ si _ => n - (intOf si).toNat)
  case atStart => exact ⟨[], 0, rfl, Nat.zero_le _, ⟨none, 0, rfl⟩, Lib.hid ⟨World.ownsRow_nil _ _ _ _, Below.refl _ _, fun e he => by simp at he, by simp, Nat.zero_le _, by simp⟩⟩
  case round =>
    obtain ⟨l, p, rfl, hp, ⟨A4, c4, rfl⟩, HI⟩ := hrel
    by_cases hlt : l.length < 2000
    case neg =>
      have i1 : ¬ ((l.length : Nat) : Int) < 2000 := by omega
      have HF : Hid (R = (l, p)) := Lib.hid (by rw [HR.out]; exact HI.out.stop (.inl (by have := HI.out.len; omega)))
      have HROWF : Hid (∃ A' cap', Value.slice A4 l.length c4 = .slice A' l.length cap' ∧ EntRow wr A' l.length cap' l) := Lib.hid (by
        obtain ⟨A', cap', e, h, _⟩ := entRow_own HI.out.own HI.out.ok
        exact ⟨A', cap', e, h⟩)
      go_wp2
      (try rw [Exit.noGoto_ret])
      go_ret2
      obtain ⟨A', cap', e, h⟩ := HROWF.out
      injection e with e1 e2 e3
      subst e1 e3
      rw [HF.out]
      exact ⟨_, _, rfl, h, HI.out.below⟩
    have i1 : ((l.length : Nat) : Int) < 2000 := by omega
    obtain ⟨A2, hs2, hr2⟩ := sliceB_lo (HROW.out _ HI.out.below) hp
    have M1 := Lib.hid (first_any hr2 (by omega) (HU.out _ HI.out.below).1 (HU.out _ HI.out.below).2)
    unfold FirstPost at M1
    obtain ⟨F, hF⟩ : ∃ F, F = first (bs.drop p) := ⟨_, rfl⟩
    rw [← hF] at M1
    have HFI := Lib.hid hF
    obtain ⟨e, sz⟩ := F
    unfold Ent.val str at M1
    simp only at M1
    clear hF hr2
    go_wp2_with fail
    refine M1.out.mono ?_
    rintro en w2 ⟨rfl, hb⟩
    go_upto_region 5 with fail
    have hbx := past hb (below_box w2 (.cells #[.int .i64 e.kd, .int .i64 e.vw, .int .i64 e.id, .int .i64 e.tr, .int .i64 e.fr, .int .i64 e.tl, .int .u32 e.sm, .string ⟨e.tx.toArray⟩] 25))
    have HI2 := Lib.hid (HI.out.on hbx)
    have hbox := EV.new w2 e
    clear hb hbx M1 hs2 HI
    generalize w2.alloc (.cells #[.int .i64 e.kd, .int .i64 e.vw, .int .i64 e.id, .int .i64 e.tr, .int .i64 e.fr, .int .i64 e.tl, .int .u32 e.sm, .string ⟨e.tx.toArray⟩] 25) = w3 at *
    generalize w2.heap.size = g2 at *
    by_cases hsz : sz = 0
    · subst hsz
      have HF : Hid (R = (l, p)) := Lib.hid (by rw [HR.out]; exact HI2.out.stop (.inr (by rw [← HFI.out])))
      have HROWF : Hid (∃ A' cap', Value.slice A4 l.length c4 = .slice A' l.length cap' ∧ EntRow w3 A' l.length cap' l) := Lib.hid (by
        obtain ⟨A', cap', e, h, _⟩ := entRow_own HI2.out.own HI2.out.ok
        exact ⟨A', cap', e, h⟩)
      clear hbox
      go_wp2
      (try rw [Exit.noGoto_ret])
      go_ret2
      obtain ⟨A', cap', e, h⟩ := HROWF.out
      injection e with e1 e2 e3
      subst e1 e3
      rw [HF.out]
      exact ⟨_, _, rfl, h, HI2.out.below⟩
    · have hsn : (first (bs.drop p)).2 ≠ 0 := by rw [← HFI.out]; exact hsz
      obtain ⟨f1, f2, f3, f4, f5⟩ := first_only (b := bs.drop p) (fun c hc => HBY.out c (List.mem_of_mem_drop hc)) (by rw [List.length_drop, HN.out]; omega) hsn
      rw [← HFI.out] at f1 f2 f3 f5
      simp only at f1 f2 f3 f5
      rw [List.length_drop, HN.out] at f5
      have hpos := frm_pos e.bytes
      rw [← f3] at hpos
      have HOK := Lib.hid f2
      have i2 : ((sz : Int) == 0) = false := by simp; omega
      have i3 : ¬ (sz : Int) = 0 := by omega
      have i4 : IntKind.i64.wrap ((p : Int) + (sz : Int)) = ((p + sz : Nat) : Int) := by rw [IntKind.wrap_i64]; omega
      have HN2 : Hid (∀ v2 wx, wx.ownsRow w.heap.size 25 8 v2 (l.length + 1) (entV (l ++ [e])) → Below w.heap.size w wx → RI w wx v2 (l ++ [e]) (p + sz) bs ∧ ∃ A4 c4, v2 = .slice A4 (l ++ [e]).length c4) := Lib.hid (fun v2 wx ho hb => by
        have h := HI2.out.next hlt HBY.out (by rw [HN.out]; exact hl) hsn (wx := wx) (v2 := v2) (by rw [← HFI.out]; exact ho) hb
        rw [← HFI.out] at h
        refine ⟨h, ?_⟩
        obtain ⟨g', c', e'⟩ := own_some ho (by omega)
        exact ⟨_, c', by rw [e', List.length_append]; rfl⟩)
      obtain ⟨c0, c1, c2, c3, c4_, c5, c6, c7, _⟩ := hbox
      clear f1 f2 f3 f4 hsn hsz
      have HOWN : Hid ((w3.alloc (.cells #[.int .i64 e.kd, .int .i64 e.vw, .int .i64 e.id, .int .i64 e.tr, .int .i64 e.fr, .int .i64 e.tl, .int .u32 e.sm, .string ⟨e.tx.toArray⟩] 25)).ownsRow w.heap.size 25 8 (.slice A4 l.length c4) l.length (entV l)) := Lib.hid (own_on HI2.out.own (below_box _ _))
      have HB4 : Hid (Below w.heap.size w (w3.alloc (.cells #[.int .i64 e.kd, .int .i64 e.vw, .int .i64 e.id, .int .i64 e.tr, .int .i64 e.fr, .int .i64 e.tl, .int .u32 e.sm, .string ⟨e.tx.toArray⟩] 25))) := Lib.hid (past HI2.out.below (below_box _ _))
      have HLEN : Hid (l.length + 1 ≤ 100000) := Lib.hid (by omega)
      go_wp2_with (at_builtin; refine wpList_append_ents rfl _ _ rfl w.heap.size _ l.length 1 l [e] rfl HOWN.out _ _ rfl (row_one e HOK.out w3) HLEN.out HB4.out.size ?_)
      intro v5 w5 hown hgrow
      have HX := Lib.hid (HN2.out v5 w5 hown (HB4.out.grown hgrow HB4.out.size (fun k h => (HOWN.out.lt k h).1)))
      clear hown hgrow HN2 HOWN HB4 HLEN c0 c1 c2 c3 c4_ c5 c6 c7
      go_wp2
      go_roundw
      case rel => exact ⟨l ++ [e], p + sz, by go_num, by omega, HX.out.2, Lib.hid HX.out.1⟩
      case measure => simp [intOf]; omega
end Go.Proofs.YtdpoahjgdndnhaaDoor
