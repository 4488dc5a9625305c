/-
  The document's own reader of a block's samples: what it returns, where it stands behind it.
-/
import Derived.Test.YtepancmkopifpaaGreatDoorBBlk
import Derived.Deep.RegionHeld3
namespace Go.Proofs.YtepancmkopifpaaGreatDoor
open Go.RowKit
attribute [local go_sem ↓] Go.wp_at_zero Go.wp_at_succ
set_option linter.unusedVariables false

def blkAt (bs : List Nat) (p : Nat) (bad : Bool) : List (Int × Int) × Nat × Bool := bAll bs (numR bs p bad).1 (numR bs p bad).2.1 ((numR bs p bad).2.2 || decide (64 < (numR bs p bad).1))
theorem blkAt_zero (bs : List Nat) : blkAt bs 0 false = blk bs := rfl

/-- Where the reader stands, of what is still to be read. -/
def bLeft (bs : List Nat) (n i : Nat) (st : Int) (out : List (Int × Int)) (p : Nat) (bad : Bool) : List (Int × Int) × Nat × Bool :=
  match i with
  | 0 => bAll bs n p bad
  | k + 1 => bOn bs (n - (k + 1)) (out.getD k (0, 0)).1 (out.getD k (0, 0)).2 st p bad

structure BKInv (w wr : World) (g : Nat) (s : ByteArray) (bs : List Nat) (R : List (Int × Int) × Nat × Bool) (n i : Nat) (st : Int) (out : List (Int × Int)) (V : Value) (p : Nat) (bad : Bool) : Prop where
  pos : CAt wr g s p bad
  own : wr.ownsRow w.heap.size 48 2 V out.length (sampV out)
  in2 : In2 out
  len : out.length = i
  le : p ≤ bs.length
  grown : w.grownBy wr (some g)
  says : R = (out ++ (bLeft bs n i st out p bad).1, (bLeft bs n i st out p bad).2)
  step : In64 st
  none : i = 0 → st = 0

theorem CAt.grown {w w' : World} {g : Nat} {s : ByteArray} {p : Nat} {bad : Bool} {row : Option Nat} (h : CAt w g s p bad) (hg : w.grownBy w' row) (hne : some g ≠ row) : CAt w' g s p bad := by
  have c := fun k => hg.cell_far ⟨g, k, none⟩ h.lt hne
  have f := fun k => hg.frozen_far ⟨g, k, none⟩ h.lt hne
  exact ⟨by rw [c]; exact h.c0, by rw [c]; exact h.c1, by rw [c]; exact h.c2, by rw [f]; exact h.f1, by rw [f]; exact h.f2⟩
theorem own_num {wr w' : World} {base g n : Nat} {V : Value} {xs : List Value} (ho : wr.ownsRow base 48 2 V n xs) (hg : wr.grownBy w' (some g)) (hlt : g < base) : w'.ownsRow base 48 2 V n xs :=
  ho.kept hg (Or.inr fun e => by have := (ho.lt g e).1; omega)
theorem own_drewN {wr : World} {base n : Nat} {V : Value} {xs : List Value} (ho : wr.ownsRow base 48 2 V n xs) (k : Nat) : (wr.drewN k).ownsRow base 48 2 V n xs :=
  ho.kept (row := none) ⟨rfl, rfl, rfl, Nat.le_refl _, fun _ _ _ => rfl⟩ (by cases V.ownBlock <;> simp)
theorem own_alloc {wr : World} {base n : Nat} {V : Value} {xs : List Value} (ho : wr.ownsRow base 48 2 V n xs) (o : Obj) : (wr.alloc o).ownsRow base 48 2 V n xs :=
  ho.kept (row := none) (World.grownBy_alloc _ _ _) (by cases V.ownBlock <;> simp)
theorem grown_then {a b c : World} {row row' : Option Nat} (h : a.grownBy b row) (k : b.grownBy c row') (hr : ∀ j, row' = some j → a.heap.size ≤ j ∨ row = some j) : a.grownBy c row :=
  ⟨k.os.trans h.os, k.tape.trans h.tape, k.output.trans h.output, Nat.le_trans h.size k.size, fun i hi hne => by
    rw [k.block i (Nat.lt_of_lt_of_le hi h.size) (fun e => by
      rcases hr i e.symm with h1 | h1
      · omega
      · exact hne h1.symm)]
    exact h.block i hi hne⟩
/-- Behind an append. -/
theorem app_num {w wr wa : World} {g n : Nat} {s : ByteArray} {p : Nat} {bad : Bool} {V : Value} {xs : List Value} {o : Obj} (hlt : g < w.heap.size) (hc : CAt wr g s p bad) (hg : w.grownBy wr (some g)) (ho : wr.ownsRow w.heap.size 48 2 V n xs)
    (ha : (wr.alloc o).grownBy wa V.ownBlock) : CAt wa g s p bad ∧ w.grownBy wa (some g) := by
  have hf : ∀ k, V.ownBlock = some k → w.heap.size ≤ k := fun k e => (ho.lt k e).1
  have h1 : CAt (wr.alloc o) g s p bad := hc.grown (World.grownBy_alloc wr o none) (by simp)
  refine ⟨h1.grown ha (fun e => ?_), ?_⟩
  · have := hf g e.symm
    omega
  · exact grown_then (grown_then hg (World.grownBy_alloc wr o none) (fun j e => by simp at e)) ha (fun j e => Or.inl (hf j e))
theorem BKInv.first {w wr wa : World} {g : Nat} {s : ByteArray} {bs : List Nat} {R : List (Int × Int) × Nat × Bool} {n : Nat} {st : Int} {out : List (Int × Int)} {V V' : Value} {p : Nat} (h : BKInv w wr g s bs R n 0 st out V p false) (hn : 0 < n) {t : Int} {u p1 p2 : Nat} {b1 b2 : Bool} {T : Nat}
    (e1 : numR bs p false = (T, p1, b1)) (e2 : numR bs p1 b1 = (u, p2, b2)) (et : w64 (T : Int) = t) (hu : u < 18446744073709551616) (hp : p2 ≤ bs.length)
    (hc : CAt wa g s p2 b2) (hg : w.grownBy wa (some g)) (ho : wa.ownsRow w.heap.size 48 2 V' (out.length + 1) (sampV out ++ [.int .i64 t, .int .i64 (zag (u : Int))])) : BKInv w wa g s bs R n 1 st (out ++ [(t, zag (u : Int))]) V' p2 b2 := by
  have h0 : out = [] := List.eq_nil_of_length_eq_zero h.len
  have hst := h.none rfl
  subst h0 hst
  obtain ⟨m, rfl⟩ : ∃ m, n = m + 1 := ⟨n - 1, by omega⟩
  refine ⟨hc, ho, ?_, rfl, hp, hg, ?_, h.step, fun h => absurd h (by omega)⟩
  · intro y hy
    simp at hy
    subst hy
    exact ⟨et ▸ w64_in _, zag_range _ (by omega) (by omega)⟩
  · rw [h.says]
    simp only [bLeft, bAll, Bool.false_eq_true, if_false, e1, e2, et, List.nil_append, Nat.zero_add, Nat.add_sub_cancel, List.getD_cons_zero, List.cons_append]
theorem BKInv.next {w wr wa : World} {g : Nat} {s : ByteArray} {bs : List Nat} {R : List (Int × Int) × Nat × Bool} {n i : Nat} {st : Int} {out : List (Int × Int)} {V V' : Value} {p : Nat} (h : BKInv w wr g s bs R n (i + 1) st out V p false) (hn : i + 1 < n) {t v st' : Int} {u0 u p1 p2 : Nat} {b1 b2 : Bool}
    (e1 : numR bs p false = (u0, p1, b1)) (e2 : numR bs p1 b1 = (u, p2, b2)) (es : w64 (st + zag (u0 : Int)) = st') (et : w64 ((out.getD i (0, 0)).1 + st') = t) (ev : w64 ((out.getD i (0, 0)).2 + zag (u : Int)) = v) (hp : p2 ≤ bs.length)
    (hc : CAt wa g s p2 b2) (hg : w.grownBy wa (some g)) (ho : wa.ownsRow w.heap.size 48 2 V' (out.length + 1) (sampV out ++ [.int .i64 t, .int .i64 v])) : BKInv w wa g s bs R n (i + 2) st' (out ++ [(t, v)]) V' p2 b2 := by
  have hl := h.len
  obtain ⟨m, hm⟩ : ∃ m, n - (i + 1) = m + 1 := ⟨n - (i + 2), by omega⟩
  have hm2 : n - (i + 1 + 1) = m := by omega
  have hget : (out ++ [(t, v)]).getD (i + 1) (0, 0) = (t, v) := by
    rw [List.getD_eq_getElem?_getD, List.getElem?_append_right (by omega), hl, Nat.sub_self]
    rfl
  refine ⟨hc, by rw [sampV_append, List.length_append]; exact ho, ?_, by rw [List.length_append, hl]; rfl, hp, hg, ?_, es ▸ w64_in _, fun h => absurd h (by omega)⟩
  · intro y hy
    rw [List.mem_append, List.mem_singleton] at hy
    rcases hy with hy | rfl
    · exact h.in2 y hy
    · exact ⟨et ▸ w64_in _, ev ▸ w64_in _⟩
  · rw [h.says]
    simp only [bLeft, hm, hm2, hget, bOn, Bool.false_eq_true, if_false, e1, e2, es, et, ev]
    simp
theorem BKInv.done {w wr : World} {g : Nat} {s : ByteArray} {bs : List Nat} {R : List (Int × Int) × Nat × Bool} {n i : Nat} {st : Int} {out : List (Int × Int)} {V : Value} {p : Nat} {bad : Bool} (h : BKInv w wr g s bs R n i st out V p bad) (hd : ¬ (i < n ∧ bad = false)) : R = (out, p, bad) := by
  have e : bLeft bs n i st out p bad = ([], p, bad) := by
    match i, h, hd with
    | 0, h, hd =>
      match n, h, hd with
      | 0, h, hd => rfl
      | n + 1, h, hd =>
        have hb : bad = true := by cases bad <;> simp_all
        subst hb
        rfl
    | i + 1, h, hd =>
      simp only [bLeft]
      rcases Nat.lt_or_ge (i + 1) n with hl | hl
      · have hb : bad = true := by cases bad <;> simp_all
        subst hb
        obtain ⟨m, hm⟩ : ∃ m, n - (i + 1) = m + 1 := ⟨n - (i + 2), by omega⟩
        rw [hm]
        rfl
      · rw [show n - (i + 1) = 0 by omega]
        rfl
  rw [h.says, e]
  simp

def BlkPost (bs : List Nat) (g : Nat) (s : ByteArray) (R : List (Int × Int) × Nat × Bool) (w : World) (e : Ending) (w' : World) : Prop :=
  ∃ V, e = .returned V ∧ w'.ownsRow w.heap.size 48 2 V R.1.length (sampV R.1) ∧ In2 R.1 ∧ CAt w' g s R.2.1 R.2.2 ∧ R.2.1 ≤ bs.length ∧ w.grownBy w' (some g)

set_option maxRecDepth 100000 in
set_option maxHeartbeats 1000000 in
theorem block_go (bs : List Nat) (g : Nat) (s : ByteArray) (p : Nat) (bad : Bool) (w : World) (h : CAt w g s p bad) (hs : StrIs s bs) (hp : p ≤ bs.length) (h64 : (numR bs p bad).1 ≤ 64) :
    Calls Tryz.prog 32 #[.pointer (some ⟨g, 0, none⟩)] w (BlkPost bs g s (blkAt bs p bad) w) := by
  have MN := Lib.hid (fun w p bad h hp => num_any bs g s p bad w h hs hp)
  have HNL := Lib.hid (fun p bad hp => numR_le (bs := bs) (p := p) (bad := bad) hs.2.1 hp)
  obtain ⟨i0, hi0, hz0, hz1, hz2⟩ := info_parts Tryz.info48
  have HGL := Lib.hid h.lt
  have H := Lib.hid h
  have HP := Lib.hid hp
  have HR : Hid (blkAt bs p bad = bAll bs (numR bs p bad).1 (numR bs p bad).2.1 (numR bs p bad).2.2) := Lib.hid (by unfold blkAt; rw [decide_eq_false (by omega), Bool.or_false])
  have HL0 := HNL.out p bad hp
  generalize blkAt bs p bad = R at *
  clear hs h hp
  go_enter Tryz.func32, Tryz.ntmps32
  go_wp2_with fail
  refine (MN.out _ _ _ H.out HP.out).mono ?_
  rintro e w1 ⟨rfl, hc1, hg1⟩
  generalize numR bs p bad = y at *
  obtain ⟨n, p1, bad1⟩ := y
  simp only at *
  have HC1 := Lib.hid hc1
  have HG1 := Lib.hid hg1
  have hc64 : ¬ (64 : Int) < (n : Int) := by omega
  clear hc1 hg1
  go_wp2
  go_loopw [4, 5, 6] (fun s3 s4 s5 wr => ∃ (out : List (Int × Int)) (st : Int) (i p : Nat) (bad : Bool), i ≤ n ∧ s4 = .int .i64 st ∧ s5 = .int .i64 (i : Int) ∧ Hid (BKInv w wr g s bs R n i st out s3 p bad)) (fun _ _ s5 _ => n - (intOf s5).toNat)
  case atStart => exact ⟨[], 0, 0, p1, bad1, by omega, rfl, rfl, Lib.hid ⟨HC1.out, World.ownsRow_nil _ _ _ _, fun _ h => by simp at h, rfl, HL0.1, HG1.out, by rw [HR.out]; rfl, by unfold In64; omega, fun _ => rfl⟩⟩
  case round =>
    obtain ⟨out, st, i, p, bad, hi, rfl, rfl, HI⟩ := hrel
    have hcb := HI.out.pos.c2
    by_cases hgo : i < n ∧ bad = false
    · obtain ⟨hlt, rfl⟩ := hgo
      rcases Nat.eq_zero_or_pos i with rfl | hpos
      · have i1 : (0 : Int) < (n : Int) := by omega
        have HC := Lib.hid HI.out.pos
        have HLE := Lib.hid HI.out.le
        obtain ⟨T, q1, b1, e1⟩ : ∃ T q1 b1, numR bs p false = (T, q1, b1) := ⟨_, _, _, rfl⟩
        obtain ⟨u, q2, b2, e2⟩ : ∃ u q2 b2, numR bs q1 b1 = (u, q2, b2) := ⟨_, _, _, rfl⟩
        have l1 := HNL.out p false HLE.out
        rw [e1] at l1
        have l2 := HNL.out q1 b1 l1.1
        rw [e2] at l2
        simp only at l1 l2
        have m1 := fun w h => MN.out w p false h HLE.out
        have m2 := fun w h => MN.out w q1 b1 h l1.1
        unfold NumPost at m1 m2
        rw [e1] at m1
        rw [e2] at m2
        have M1 := Lib.hid m1
        have M2 := Lib.hid m2
        have MZ := Lib.hid (fun w => refzag_any (u : Int) w (by omega) (by omega))
        obtain ⟨t, ht⟩ : ∃ t, w64 (T : Int) = t := ⟨_, rfl⟩
        have hwt : IntKind.i64.wrap (T : Int) = t := by rw [← ht, IntKind.wrap_i64]; rfl
        obtain ⟨Z, hZ⟩ : ∃ Z, zag (u : Int) = Z := ⟨_, rfl⟩
        rw [hZ] at MZ
        have HNEXT : Hid (∀ wa V', CAt wa g s q2 b2 → w.grownBy wa (some g) → wa.ownsRow w.heap.size 48 2 V' (out.length + 1) (sampV out ++ [.int .i64 t, .int .i64 Z]) → BKInv w wa g s bs R n 1 st (out ++ [(t, Z)]) V' q2 b2) := Lib.hid (fun wa V' hc hg ho => by
          have := HI.out.first hlt (V' := V') (t := t) (u := u) (T := T) e1 e2 ht l2.2 l2.1 hc hg (by rw [hZ]; exact ho)
          rwa [hZ] at this)
        have hol := HI.out.len
        have HOWN := Lib.hid HI.out.own
        have HGR := Lib.hid HI.out.grown
        clear m1 m2 e1 e2 ht hZ l1 l2
        go_wp2_with fail
        refine (M1.out _ HC.out).mono ?_
        rintro e w2 ⟨rfl, hc2, hg2⟩
        have HC2 := Lib.hid hc2
        have HOWN2 := Lib.hid (own_num HOWN.out hg2 HGL.out)
        have HGR2 := Lib.hid (HGR.out.trans hg2)
        clear hc2 hg2 hcb
        go_wp2_with fail
        refine (M2.out _ HC2.out).mono ?_
        rintro e w3 ⟨rfl, hc3, hg3⟩
        have HC3 := Lib.hid hc3
        have HOWN3 := Lib.hid (own_num HOWN2.out hg3 HGL.out)
        have HGR3 := Lib.hid (HGR2.out.trans hg3)
        clear hc3 hg3
        go_wp2_with fail
        refine (MZ.out _).mono ?_
        rintro e w4 ⟨rfl, rfl⟩
        have HO : Hid ((w3.alloc (.cells #[.int .i64 t, .int .i64 Z] 48)).ownsRow w.heap.size 48 2 u4 out.length (sampV out)) := Lib.hid (own_alloc HOWN3.out _)
        have hsz := HGR3.out.size
        go_wp2_with (at_builtin; refine wpList_append_own _ rfl _ _ 22 rfl w.heap.size 48 i0 (.agg #[.int .i64 0, .int .i64 0]) 2 16 Tryz.underlying22 hi0 hz0 hz1 hz2 rfl (by decide) u4 out.length (sampV out) rfl HO.out ⟨w3.heap.size, 0, none⟩ 1 1 [.int .i64 t, .int .i64 Z] rfl rfl ?c1 ?c2 ?c3 ?c4 ?c5 ?_)
        case c1 =>
          intro j x hj
          match j, hj with
          | 0, hj => simp at hj; subst hj; simp [Addr.add]
          | 1, hj => simp at hj; subst hj; simp [Addr.add]
        case c2 => intro x hx; simp at hx; rcases hx with rfl | rfl <;> rfl
        case c3 => unfold maxLen; omega
        case c4 => omega
        case c5 => simp; omega
        intro v' wa hown hgrow hnil
        have HA := Lib.hid (app_num HGL.out HC3.out HGR3.out HOWN3.out hgrow)
        have HN : Hid (BKInv w wa g s bs R n 1 st (out ++ [(t, Z)]) v' q2 b2) := Lib.hid (HNEXT.out wa v' HA.out.1 HA.out.2 (by rw [hol]; exact hown))
        clear hown hgrow hnil
        go_wp2
        go_roundw
        case rel => exact ⟨_, st, 1, q2, b2, by omega, rfl, by go_num, HN⟩
        case measure => simp [intOf]; omega
      · obtain ⟨k, hk⟩ : ∃ k, i = k + 1 := ⟨i - 1, by omega⟩
        have i1 : (i : Int) < (n : Int) := by omega
        have i2 : ((i : Int) == 0) = false := by simp; omega
        have i4 : IntKind.i64.wrap ((i : Int) - 1) = (k : Int) := by rw [IntKind.wrap_i64]; omega
        have i5 : (0 : Int) ≤ (k : Int) := by omega
        have i6 : (k : Int) < (i : Int) := by omega
        have HC := Lib.hid HI.out.pos
        have HLE := Lib.hid HI.out.le
        obtain ⟨u0, q1, b1, e1⟩ : ∃ T q1 b1, numR bs p false = (T, q1, b1) := ⟨_, _, _, rfl⟩
        obtain ⟨u, q2, b2, e2⟩ : ∃ u q2 b2, numR bs q1 b1 = (u, q2, b2) := ⟨_, _, _, rfl⟩
        have l1 := HNL.out p false HLE.out
        rw [e1] at l1
        have l2 := HNL.out q1 b1 l1.1
        rw [e2] at l2
        simp only at l1 l2
        have m1 := fun w h => MN.out w p false h HLE.out
        have m2 := fun w h => MN.out w q1 b1 h l1.1
        unfold NumPost at m1 m2
        rw [e1] at m1
        rw [e2] at m2
        have M1 := Lib.hid m1
        have M2 := Lib.hid m2
        have MZ0 := Lib.hid (fun w => refzag_any (u0 : Int) w (by omega) (by omega))
        have MZ := Lib.hid (fun w => refzag_any (u : Int) w (by omega) (by omega))
        have hz0r := zag_range (u0 : Int) (by omega) (by omega)
        have hzr := zag_range (u : Int) (by omega) (by omega)
        have hol := HI.out.len
        obtain ⟨gb, cap, hu4⟩ : ∃ gb cap, u4 = .slice (some ⟨gb, 0, none⟩) i cap := by
          rcases HI.out.own.2 with ⟨_, h0⟩ | ⟨g', cap, cur, e, _⟩
          · omega
          · exact ⟨g', cap, by rw [e, hol]⟩
        subst hu4
        have hown := HI.out.own
        rw [hol] at hown
        have hin := HI.out.in2 (out.getD k (0, 0)) (sample_mem (by omega))
        have hst := HI.out.step
        have hsm := Samps.own hown HI.out.in2
        have HCELL : Hid (∀ w' : World, w'.ownsRow w.heap.size 48 2 (.slice (some ⟨gb, 0, none⟩) i cap) i (sampV out) → w'.cell? ⟨gb, k * 2, none⟩ = some (.int .i64 (out.getD k (0, 0)).1) ∧ w'.cell? ⟨gb, k * 2 + 1, none⟩ = some (.int .i64 (out.getD k (0, 0)).2)) := Lib.hid (fun w' ho => by
          obtain ⟨b', o', e, hcc⟩ := (Samps.own ho HI.out.in2).1.2 (by omega)
          injection e with e
          injection e with e1 e2
          subst e1 e2
          have := hcc k (by omega)
          rwa [Nat.zero_add] at this)
        have HNX : Hid (∀ (wa : World) (V' : Value) (st' t v : Int), w64 (st + zag (u0 : Int)) = st' → w64 ((out.getD k (0, 0)).1 + st') = t → w64 ((out.getD k (0, 0)).2 + zag (u : Int)) = v → CAt wa g s q2 b2 → w.grownBy wa (some g) → wa.ownsRow w.heap.size 48 2 V' (out.length + 1) (sampV out ++ [.int .i64 t, .int .i64 v]) → BKInv w wa g s bs R n (i + 1) st' (out ++ [(t, v)]) V' q2 b2) :=
          Lib.hid (fun wa V' st' t v es et ev hc hg ho => by subst hk; exact HI.out.next hlt e1 e2 es et ev l2.1 hc hg ho)
        generalize hx0 : out.getD k (0, 0) = x0 at *
        obtain ⟨t0, v0⟩ := x0
        simp only at hin HCELL HNX
        generalize zag (u0 : Int) = Z0 at *
        generalize zag (u : Int) = Z at *
        obtain ⟨st', hst'⟩ : ∃ st', w64 (st + Z0) = st' := ⟨_, rfl⟩
        obtain ⟨t, ht⟩ : ∃ t, w64 (t0 + st') = t := ⟨_, rfl⟩
        obtain ⟨v, hv⟩ : ∃ v, w64 (v0 + Z) = v := ⟨_, rfl⟩
        have HNEXT := Lib.hid (fun wa V' => HNX.out wa V' st' t v hst' ht hv)
        obtain ⟨A0, hA0⟩ : ∃ A0, IntKind.u64.wrap st = A0 := ⟨_, rfl⟩
        obtain ⟨A1, hA1⟩ : ∃ A1, IntKind.u64.wrap Z0 = A1 := ⟨_, rfl⟩
        obtain ⟨A2, hA2⟩ : ∃ A2, IntKind.u64.wrap (A0 + A1) = A2 := ⟨_, rfl⟩
        have hA3 : IntKind.i64.wrap A2 = st' := by
          rw [← hst', ← hA2, ← hA1, ← hA0]
          simp only [IntKind.wrap_u64, IntKind.wrap_i64]
          unfold w64
          omega
        obtain ⟨B0, hB0⟩ : ∃ B0, IntKind.u64.wrap v0 = B0 := ⟨_, rfl⟩
        obtain ⟨B1, hB1⟩ : ∃ B1, IntKind.u64.wrap Z = B1 := ⟨_, rfl⟩
        obtain ⟨B2, hB2⟩ : ∃ B2, IntKind.u64.wrap (B0 + B1) = B2 := ⟨_, rfl⟩
        have hB3 : IntKind.i64.wrap B2 = v := by
          rw [← hv, ← hB2, ← hB1, ← hB0]
          simp only [IntKind.wrap_u64, IntKind.wrap_i64]
          unfold w64
          omega
        obtain ⟨C0, hC0⟩ : ∃ C0, IntKind.u64.wrap t0 = C0 := ⟨_, rfl⟩
        obtain ⟨C1, hC1⟩ : ∃ C1, IntKind.u64.wrap st' = C1 := ⟨_, rfl⟩
        obtain ⟨C2, hC2⟩ : ∃ C2, IntKind.u64.wrap (C0 + C1) = C2 := ⟨_, rfl⟩
        have hC3 : IntKind.i64.wrap C2 = t := by
          rw [← ht, ← hC2, ← hC1, ← hC0]
          simp only [IntKind.wrap_u64, IntKind.wrap_i64]
          unfold w64
          omega
        have HOWN := Lib.hid hown
        have HGR := Lib.hid HI.out.grown
        have HK := Lib.hid hk
        clear hk m1 m2 e1 e2 l1 l2 hst' ht hv hown hin hst hsm hx0 hz0r hzr HNX
        go_wp2_with fail
        refine (M1.out _ HC.out).mono ?_
        rintro e w2 ⟨rfl, hc2, hg2⟩
        have HC2 := Lib.hid hc2
        have HOWN2 := Lib.hid (own_num HOWN.out hg2 HGL.out)
        have HGR2 := Lib.hid (HGR.out.trans hg2)
        clear hc2 hg2 hcb
        go_wp2_with fail
        refine (MZ0.out _).mono ?_
        rintro e w4 ⟨rfl, rfl⟩
        have k1 := (HCELL.out _ HOWN2.out).2
        have HC2N := Lib.hid (fun k => HC2.out.below (belowN w2 k))
        have HO2N := Lib.hid (fun k => own_drewN HOWN2.out k)
        have HG2N : Hid (∀ k, w2.grownBy (w2.drewN k) (some g)) := Lib.hid (fun k => ⟨rfl, rfl, rfl, Nat.le_refl _, fun _ _ _ => rfl⟩)
        go_upto_region 13 with fail
        go_region_held3 (fun w' => w'.cell? ⟨gb, k * 2 + 1, none⟩ = some (.int .i64 v0))
          (first
            | exact (HCELL.out _ hO).2
            | exact (HCELL.out _ HOWN2.out).2
            | exact (HCELL.out _ (HO2N.out 1)).2)
          (first
            | (go_at_call 65; refine (MZ.out _).mono ?_; rintro e wt ⟨rfl, rfl⟩)
            | (go_at_call 31; refine (M2.out _ (HC2N.out 1)).mono ?_; rintro e wt ⟨rfl, hct, hgt⟩; have hO := own_num (HO2N.out 1) hgt HGL.out))
        have HC3 := Lib.hid hct
        have HOWN3 := Lib.hid hO
        have HGR3 := Lib.hid ((HGR2.out.trans (HG2N.out 1)).trans hgt)
        have k2 := (HCELL.out _ hO).1
        clear hct hgt hO k1 hB0 hB1 hB2 hB3 hA0 hA1 hA2 hA3
        have HO : Hid ((wt.alloc (.cells #[.int .i64 t, .int .i64 v] 48)).ownsRow w.heap.size 48 2 (.slice (some ⟨gb, 0, none⟩) i cap) i (sampV out)) := Lib.hid (own_alloc HOWN3.out _)
        have hsz := HGR3.out.size
        go_wp2_with (at_builtin; refine wpList_append_own _ rfl _ _ 22 rfl w.heap.size 48 i0 (.agg #[.int .i64 0, .int .i64 0]) 2 16 Tryz.underlying22 hi0 hz0 hz1 hz2 rfl (by decide) (.slice (some ⟨gb, 0, none⟩) i cap) i (sampV out) rfl HO.out ⟨wt.heap.size, 0, none⟩ 1 1 [.int .i64 t, .int .i64 v] rfl rfl ?c1 ?c2 ?c3 ?c4 ?c5 ?_)
        case c1 =>
          intro j x hj
          match j, hj with
          | 0, hj => simp at hj; subst hj; simp [Addr.add]
          | 1, hj => simp at hj; subst hj; simp [Addr.add]
        case c2 => intro x hx; simp at hx; rcases hx with rfl | rfl <;> rfl
        case c3 => unfold maxLen; omega
        case c4 => omega
        case c5 => simp; omega
        intro v' wa hown hgrow hnil
        have HA := Lib.hid (app_num HGL.out HC3.out HGR3.out HOWN3.out hgrow)
        have HN : Hid (BKInv w wa g s bs R n (i + 1) st' (out ++ [(t, v)]) v' q2 b2) := Lib.hid (HNEXT.out wa v' HA.out.1 HA.out.2 (by rw [hol]; exact hown))
        clear hown hgrow hnil k2
        go_wp2
        go_roundw
        case rel => exact ⟨_, st', i + 1, q2, b2, by omega, rfl, by go_num, HN⟩
        case measure => simp [intOf]; omega
    · have HD := Lib.hid (HI.out.done hgo)
      by_cases hlt : i < n
      case' pos =>
        have hb : bad = true := by cases bad <;> simp_all
        subst hb
        have i1 : (i : Int) < (n : Int) := by omega
      case' neg =>
        have i1 : ¬ (i : Int) < (n : Int) := by omega
      all_goals
        clear hgo
        go_wp2
        (try rw [Exit.noGoto_ret])
        go_ret
        exact ⟨_, rfl, by rw [HD.out]; exact HI.out.own, by rw [HD.out]; exact HI.out.in2, by rw [HD.out]; exact HI.out.pos, by rw [HD.out]; exact HI.out.le, HI.out.grown⟩
theorem c_bad {w : World} {g : Nat} {s : ByteArray} {p : Nat} {bad : Bool} (h : CAt w g s p bad) : CAt (w.setCell ⟨g, 2, none⟩ (.bool true)) g s p true := by
  obtain ⟨c0, c1, c2, f1, f2⟩ := h
  constructor <;> simp [go_sem, *]
theorem g_bad (w : World) (g : Nat) (a : Value) : w.grownBy (w.setCell ⟨g, 2, none⟩ a) (some g) :=
  ⟨rfl, rfl, rfl, by simp [World.setCell], fun k _ hk => by
    have hne : k ≠ g := fun e => hk (by rw [e])
    rw [Below.heap_setCell _ _ _ _ (fun e => hne e)]⟩
set_option maxRecDepth 100000 in
set_option maxHeartbeats 1000000 in
theorem block_many (bs : List Nat) (g : Nat) (s : ByteArray) (p : Nat) (bad : Bool) (w : World) (h : CAt w g s p bad) (hs : StrIs s bs) (hp : p ≤ bs.length) (h64 : 64 < (numR bs p bad).1) :
    Calls Tryz.prog 32 #[.pointer (some ⟨g, 0, none⟩)] w (BlkPost bs g s (blkAt bs p bad) w) := by
  have MN := Lib.hid (fun w p bad h hp => num_any bs g s p bad w h hs hp)
  have HNL := Lib.hid (fun p bad hp => numR_le (bs := bs) (p := p) (bad := bad) hs.2.1 hp)
  have H := Lib.hid h
  have HP := Lib.hid hp
  have HL0 := HNL.out p bad hp
  have HR : Hid (blkAt bs p bad = ([], (numR bs p bad).2.1, true)) := Lib.hid (by
    unfold blkAt
    rw [decide_eq_true h64, Bool.or_true]
    obtain ⟨m, hm⟩ : ∃ m, (numR bs p bad).1 = m + 1 := ⟨(numR bs p bad).1 - 1, by omega⟩
    rw [hm]
    rfl)
  rw [HR.out]
  clear hs h hp HR
  go_enter Tryz.func32, Tryz.ntmps32
  go_wp2_with fail
  refine (MN.out _ _ _ H.out HP.out).mono ?_
  rintro e w1 ⟨rfl, hc1, hg1⟩
  generalize numR bs p bad = y at *
  obtain ⟨n, p1, bad1⟩ := y
  simp only at *
  have HC2 := Lib.hid (c_bad hc1)
  have HG2 := Lib.hid (hg1.trans (g_bad w1 g (.bool true)))
  have hcc := hc1.c2
  have hcf := hc1.f2
  have hc64 : (64 : Int) < (n : Int) := by omega
  have hown : Hid ((w1.setCell ⟨g, 2, none⟩ (.bool true)).ownsRow w.heap.size 48 2 (.slice none 0 0) 0 []) := Lib.hid (World.ownsRow_nil _ _ _ _)
  clear hc1 hg1 MN
  obtain ⟨N, hN⟩ : ∃ N, IntKind.i64.wrap (n : Int) = N := ⟨_, rfl⟩
  by_cases h0 : 0 < N
  all_goals
    go_wp2
    refine wp_loop_rounds 1 ?_
    rw [rounds_succ]
    go_wp2
    (try rw [Exit.noGoto_ret])
    go_ret
    exact ⟨_, rfl, hown.out, fun _ h => by simp at h, HC2.out, HL0.1, HG2.out⟩
theorem block_any (bs : List Nat) (g : Nat) (s : ByteArray) (p : Nat) (bad : Bool) (w : World) (h : CAt w g s p bad) (hs : StrIs s bs) (hp : p ≤ bs.length) :
    Calls Tryz.prog 32 #[.pointer (some ⟨g, 0, none⟩)] w (BlkPost bs g s (blkAt bs p bad) w) := by
  rcases Nat.lt_or_ge 64 (numR bs p bad).1 with h64 | h64
  · exact block_many bs g s p bad w h hs hp h64
  · exact block_go bs g s p bad w h hs hp h64
end Go.Proofs.YtepancmkopifpaaGreatDoor
