/-
  The document's own reader of a block's samples: what it returns, where it stands behind it.
-/
import Derived.Test.YtepancmkopifpaaDoorBBlk
import Derived.Deep.RegionHeld3
namespace Go.Proofs.YtepancmkopifpaaDoor
open Go.RowKit
attribute [local go_sem ↓] Go.wp_at_zero Go.wp_at_succ
set_option linter.unusedVariables false

def blkAt (bs : List Nat) (p : Nat) (bad : Bool) : List (Int × Int) × Nat × Bool := bAll bs (numR bs p bad).1 (numR bs p bad).2.1 ((numR bs p bad).2.2 || decide (64 < (numR bs p bad).1))
theorem blkAt_zero (bs : List Nat) : blkAt bs 0 false = blk bs := rfl

/-- Where the reader stands, of what is still to be read. -/
def bLeft (bs : List Nat) (n i : Nat) (st : Int) (out : List (Int × Int)) (p : Nat) (bad : Bool) : List (Int × Int) × Nat × Bool :=
  match i with
  | 0 => bAll bs n p bad
  | k + 1 => bOn bs (n - (k + 1)) (out.getD k (0, 0)).1 (out.getD k (0, 0)).2 st p bad

structure BKInv (w wr : World) (g : Nat) (s : ByteArray) (bs : List Nat) (R : List (Int × Int) × Nat × Bool) (n i : Nat) (st : Int) (out : List (Int × Int)) (V : Value) (p : Nat) (bad : Bool) : Prop where
  pos : CAt wr g s p bad
  own : wr.ownsRow w.heap.size 28 2 V out.length (sampV out)
  in2 : In2 out
  len : out.length = i
  le : p ≤ bs.length
  grown : w.grownBy wr (some g)
  says : R = (out ++ (bLeft bs n i st out p bad).1, (bLeft bs n i st out p bad).2)
  step : In64 st
  none : i = 0 → st = 0

theorem CAt.grown {w w' : World} {g : Nat} {s : ByteArray} {p : Nat} {bad : Bool} {row : Option Nat} (h : CAt w g s p bad) (hg : w.grownBy w' row) (hne : some g ≠ row) : CAt w' g s p bad := by
  have c := fun k => hg.cell_far ⟨g, k, none⟩ h.lt hne
  have f := fun k => hg.frozen_far ⟨g, k, none⟩ h.lt hne
  exact ⟨by rw [c]; exact h.c0, by rw [c]; exact h.c1, by rw [c]; exact h.c2, by rw [f]; exact h.f1, by rw [f]; exact h.f2⟩
theorem own_num {wr w' : World} {base g n : Nat} {V : Value} {xs : List Value} (ho : wr.ownsRow base 28 2 V n xs) (hg : wr.grownBy w' (some g)) (hlt : g < base) : w'.ownsRow base 28 2 V n xs :=
  ho.kept hg (Or.inr fun e => by have := (ho.lt g e).1; omega)
theorem own_drewN {wr : World} {base n : Nat} {V : Value} {xs : List Value} (ho : wr.ownsRow base 28 2 V n xs) (k : Nat) : (wr.drewN k).ownsRow base 28 2 V n xs :=
  ho.kept (row := none) ⟨rfl, rfl, rfl, Nat.le_refl _, fun _ _ _ => rfl⟩ (by cases V.ownBlock <;> simp)
theorem own_alloc {wr : World} {base n : Nat} {V : Value} {xs : List Value} (ho : wr.ownsRow base 28 2 V n xs) (o : Obj) : (wr.alloc o).ownsRow base 28 2 V n xs :=
  ho.kept (row := none) (World.grownBy_alloc _ _ _) (by cases V.ownBlock <;> simp)
theorem grown_then {a b c : World} {row row' : Option Nat} (h : a.grownBy b row) (k : b.grownBy c row') (hr : ∀ j, row' = some j → a.heap.size ≤ j ∨ row = some j) : a.grownBy c row :=
  ⟨k.os.trans h.os, k.tape.trans h.tape, k.output.trans h.output, Nat.le_trans h.size k.size, fun i hi hne => by
    rw [k.block i (Nat.lt_of_lt_of_le hi h.size) (fun e => by
      rcases hr i e.symm with h1 | h1
      · omega
      · exact hne h1.symm)]
    exact h.block i hi hne⟩
/-- Behind an append. -/
theorem app_num {w wr wa : World} {g n : Nat} {s : ByteArray} {p : Nat} {bad : Bool} {V : Value} {xs : List Value} {o : Obj} (hlt : g < w.heap.size) (hc : CAt wr g s p bad) (hg : w.grownBy wr (some g)) (ho : wr.ownsRow w.heap.size 28 2 V n xs)
    (ha : (wr.alloc o).grownBy wa V.ownBlock) : CAt wa g s p bad ∧ w.grownBy wa (some g) := by
  have hf : ∀ k, V.ownBlock = some k → w.heap.size ≤ k := fun k e => (ho.lt k e).1
  have h1 : CAt (wr.alloc o) g s p bad := hc.grown (World.grownBy_alloc wr o none) (by simp)
  refine ⟨h1.grown ha (fun e => ?_), ?_⟩
  · have := hf g e.symm
    omega
  · exact grown_then (grown_then hg (World.grownBy_alloc wr o none) (fun j e => by simp at e)) ha (fun j e => Or.inl (hf j e))
theorem BKInv.first {w wr wa : World} {g : Nat} {s : ByteArray} {bs : List Nat} {R : List (Int × Int) × Nat × Bool} {n : Nat} {st : Int} {out : List (Int × Int)} {V V' : Value} {p : Nat} (h : BKInv w wr g s bs R n 0 st out V p false) (hn : 0 < n) {t : Int} {u p1 p2 : Nat} {b1 b2 : Bool} {T : Nat}
    (e1 : numR bs p false = (T, p1, b1)) (e2 : numR bs p1 b1 = (u, p2, b2)) (et : w64 (T : Int) = t) (hu : u < 18446744073709551616) (hp : p2 ≤ bs.length)
    (hc : CAt wa g s p2 b2) (hg : w.grownBy wa (some g)) (ho : wa.ownsRow w.heap.size 28 2 V' (out.length + 1) (sampV out ++ [.int .i64 t, .int .i64 (zag (u : Int))])) : BKInv w wa g s bs R n 1 st (out ++ [(t, zag (u : Int))]) V' p2 b2 := by
  have h0 : out = [] := List.eq_nil_of_length_eq_zero h.len
  have hst := h.none rfl
  subst h0 hst
  obtain ⟨m, rfl⟩ : ∃ m, n = m + 1 := ⟨n - 1, by omega⟩
  refine ⟨hc, ho, ?_, rfl, hp, hg, ?_, h.step, fun h => absurd h (by omega)⟩
  · intro y hy
    simp at hy
    subst hy
    exact ⟨et ▸ w64_in _, zag_range _ (by omega) (by omega)⟩
  · rw [h.says]
    simp only [bLeft, bAll, Bool.false_eq_true, if_false, e1, e2, et, List.nil_append, Nat.zero_add, Nat.add_sub_cancel, List.getD_cons_zero, List.cons_append]
theorem BKInv.next {w wr wa : World} {g : Nat} {s : ByteArray} {bs : List Nat} {R : List (Int × Int) × Nat × Bool} {n i : Nat} {st : Int} {out : List (Int × Int)} {V V' : Value} {p : Nat} (h : BKInv w wr g s bs R n (i + 1) st out V p false) (hn : i + 1 < n) {t v st' : Int} {u0 u p1 p2 : Nat} {b1 b2 : Bool}
    (e1 : numR bs p false = (u0, p1, b1)) (e2 : numR bs p1 b1 = (u, p2, b2)) (es : w64 (st + zag (u0 : Int)) = st') (et : w64 ((out.getD i (0, 0)).1 + st') = t) (ev : w64 ((out.getD i (0, 0)).2 + zag (u : Int)) = v) (hp : p2 ≤ bs.length)
    (hc : CAt wa g s p2 b2) (hg : w.grownBy wa (some g)) (ho : wa.ownsRow w.heap.size 28 2 V' (out.length + 1) (sampV out ++ [.int .i64 t, .int .i64 v])) : BKInv w wa g s bs R n (i + 2) st' (out ++ [(t, v)]) V' p2 b2 := by
  have hl := h.len
  obtain ⟨m, hm⟩ : ∃ m, n - (i + 1) = m + 1 := ⟨n - (i + 2), by omega⟩
  have hm2 : n - (i + 1 + 1) = m := by omega
  have hget : (out ++ [(t, v)]).getD (i + 1) (0, 0) = (t, v) := by
    rw [List.getD_eq_getElem?_getD, List.getElem?_append_right (by omega), hl, Nat.sub_self]
    rfl
  refine ⟨hc, by rw [sampV_append, List.length_append]; exact ho, ?_, by rw [List.length_append, hl]; rfl, hp, hg, ?_, es ▸ w64_in _, fun h => absurd h (by omega)⟩
  · intro y hy
    rw [List.mem_append, List.mem_singleton] at hy
    rcases hy with hy | rfl
    · exact h.in2 y hy
    · exact ⟨et ▸ w64_in _, ev ▸ w64_in _⟩
  · rw [h.says]
    simp only [bLeft, hm, hm2, hget, bOn, Bool.false_eq_true, if_false, e1, e2, es, et, ev]
    simp
theorem BKInv.done {w wr : World} {g : Nat} {s : ByteArray} {bs : List Nat} {R : List (Int × Int) × Nat × Bool} {n i : Nat} {st : Int} {out : List (Int × Int)} {V : Value} {p : Nat} {bad : Bool} (h : BKInv w wr g s bs R n i st out V p bad) (hd : ¬ (i < n ∧ bad = false)) : R = (out, p, bad) := by
  have e : bLeft bs n i st out p bad = ([], p, bad) := by
    match i, h, hd with
    | 0, h, hd =>
      match n, h, hd with
      | 0, h, hd => rfl
      | n + 1, h, hd =>
        have hb : bad = true := by cases bad <;> simp_all
        subst hb
        rfl
    | i + 1, h, hd =>
      simp only [bLeft]
      rcases Nat.lt_or_ge (i + 1) n with hl | hl
      · have hb : bad = true := by cases bad <;> simp_all
        subst hb
        obtain ⟨m, hm⟩ : ∃ m, n - (i + 1) = m + 1 := ⟨n - (i + 2), by omega⟩
        rw [hm]
        rfl
      · rw [show n - (i + 1) = 0 by omega]
        rfl
  rw [h.says, e]
  simp

def BlkPost (bs : List Nat) (g : Nat) (s : ByteArray) (R : List (Int × Int) × Nat × Bool) (w : World) (e : Ending) (w' : World) : Prop :=
  ∃ V, e = .returned V ∧ w'.ownsRow w.heap.size 28 2 V R.1.length (sampV R.1) ∧ In2 R.1 ∧ CAt w' g s R.2.1 R.2.2 ∧ R.2.1 ≤ bs.length ∧ w.grownBy w' (some g)

theorem c_bad {w : World} {g : Nat} {s : ByteArray} {p : Nat} {bad : Bool} (h : CAt w g s p bad) : CAt (w.setCell ⟨g, 2, none⟩ (.bool true)) g s p true := by
  obtain ⟨c0, c1, c2, f1, f2⟩ := h
  constructor <;> simp [go_sem, *]
theorem g_bad (w : World) (g : Nat) (a : Value) : w.grownBy (w.setCell ⟨g, 2, none⟩ a) (some g) :=
  ⟨rfl, rfl, rfl, by simp [World.setCell], fun k _ hk => by
    have hne : k ≠ g := fun e => hk (by rw [e])
    rw [Below.heap_setCell _ _ _ _ (fun e => hne e)]⟩
end Go.Proofs.YtepancmkopifpaaDoor
