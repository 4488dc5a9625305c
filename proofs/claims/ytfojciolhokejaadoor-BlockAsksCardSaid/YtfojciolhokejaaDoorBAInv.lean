/-
  What the document's own reader of windows holds in its loop.
-/
import Derived.Test.YtfojciolhokejaaDoorBABlk
namespace Go.Proofs.YtfojciolhokejaaDoor
open Go.RowKit
set_option linter.unusedVariables false

def preAt (out : List Ag) (i : Nat) : Option Int := match i with | 0 => none | j + 1 => some (agAt out j).fr
structure AKInv (w wr : World) (g : Nat) (s : ByteArray) (bs : List Nat) (W : Int) (R : List Ag × Nat × Bool) (n i : Nat) (out : List Ag) (V : Value) (p : Nat) (bad : Bool) : Prop where
  pos : CAt wr g s p bad
  own : wr.ownsRow w.heap.size 70 7 V out.length (aggV out)
  ok : ∀ a ∈ out, a.ok
  len : out.length = i
  le : p ≤ bs.length
  grown : w.grownBy wr (some g)
  says : R = (out ++ (rOn bs W (n - i) (preAt out i) p bad).1, (rOn bs W (n - i) (preAt out i) p bad).2)
theorem AKInv.done {w wr : World} {g : Nat} {s : ByteArray} {bs : List Nat} {W : Int} {R : List Ag × Nat × Bool} {n i : Nat} {out : List Ag} {V : Value} {p : Nat} {bad : Bool} (h : AKInv w wr g s bs W R n i out V p bad) (hd : ¬ (i < n ∧ bad = false)) : R = (out, p, bad) := by
  have e : rOn bs W (n - i) (preAt out i) p bad = ([], p, bad) := by
    rcases Nat.lt_or_ge i n with hl | hl
    · have hb : bad = true := by cases bad <;> simp_all
      subst hb
      obtain ⟨m, hm⟩ : ∃ m, n - i = m + 1 := ⟨n - (i + 1), by omega⟩
      rw [hm]
      rfl
    · rw [show n - i = 0 by omega]
      rfl
  rw [h.says, e]
  simp
theorem AKInv.next {w wr wa : World} {g : Nat} {s : ByteArray} {bs : List Nat} {W : Int} {R : List Ag × Nat × Bool} {n i : Nat} {out : List Ag} {V V' : Value} {p q : Nat} {bad : Bool} {x : Ag} (h : AKInv w wr g s bs W R n i out V p false) (hn : i < n) (hb : ∀ c ∈ bs, c < 256)
    (e : rAg bs W (preAt out i) p false = (x, q, bad)) (hc : CAt wa g s q bad) (hg : w.grownBy wa (some g)) (ho : wa.ownsRow w.heap.size 70 7 V' (out.length + 1) (aggV (out ++ [x]))) : AKInv w wa g s bs W R n (i + 1) (out ++ [x]) V' q bad := by
  have hl := h.len
  have hin := rAg_in (W := W) (pre := preAt out i) (bad := false) hb h.le
  rw [e] at hin
  obtain ⟨m, hm⟩ : ∃ m, n - i = m + 1 := ⟨n - (i + 1), by omega⟩
  have hm2 : n - (i + 1) = m := by omega
  have hget : preAt (out ++ [x]) (i + 1) = some x.fr := by
    simp only [preAt, agAt]
    rw [List.getD_eq_getElem?_getD, List.getElem?_append_right (by omega), hl, Nat.sub_self]
    rfl
  refine ⟨hc, by rw [List.length_append]; exact ho, ?_, by rw [List.length_append, hl]; rfl, hin.2, hg, ?_⟩
  · intro y hy
    rw [List.mem_append, List.mem_singleton] at hy
    rcases hy with hy | rfl
    · exact h.ok y hy
    · exact hin.1
  · rw [h.says, hm, hm2, hget]
    simp only [rOn, Bool.false_eq_true, if_false, e]
    simp
theorem own7_num {wr w' : World} {base g n : Nat} {V : Value} {xs : List Value} (ho : wr.ownsRow base 70 7 V n xs) (hg : wr.grownBy w' (some g)) (hlt : g < base) : w'.ownsRow base 70 7 V n xs :=
  ho.kept hg (Or.inr fun e => by have := (ho.lt g e).1; omega)
/-- Behind an append. -/
theorem app7_num {w wr wa : World} {g n : Nat} {s : ByteArray} {p : Nat} {bad : Bool} {V : Value} {xs : List Value} {o : Obj} (hlt : g < w.heap.size) (hc : CAt wr g s p bad) (hg : w.grownBy wr (some g)) (ho : wr.ownsRow w.heap.size 70 7 V n xs)
    (ha : (wr.alloc o).grownBy wa V.ownBlock) : CAt wa g s p bad ∧ w.grownBy wa (some g) := by
  have hf : ∀ k, V.ownBlock = some k → w.heap.size ≤ k := fun k e => (ho.lt k e).1
  have h1 : CAt (wr.alloc o) g s p bad := hc.grown (World.grownBy_alloc wr o none) (by simp)
  refine ⟨h1.grown ha (fun e => ?_), ?_⟩
  · have := hf g e.symm
    omega
  · exact grown_then (grown_then hg (World.grownBy_alloc wr o none) (fun j e => by simp at e)) ha (fun j e => Or.inl (hf j e))
def AggPost (bs : List Nat) (g : Nat) (s : ByteArray) (R : List Ag × Nat × Bool) (w : World) (e : Ending) (w' : World) : Prop :=
  ∃ V, e = .returned V ∧ w'.ownsRow w.heap.size 70 7 V R.1.length (aggV R.1) ∧ (∀ a ∈ R.1, a.ok) ∧ CAt w' g s R.2.1 R.2.2 ∧ R.2.1 ≤ bs.length ∧ w.grownBy w' (some g)
/-- Amid a round: the reader stands at p, the row is the call's own, and the window that is read lies at A, apart from both. -/
structure AMid (w wr : World) (g : Nat) (s : ByteArray) (p : Nat) (bad : Bool) (V : Value) (out : List Ag) (A : Nat) (x : Ag) : Prop where
  pos : CAt wr g s p bad
  own : wr.ownsRow w.heap.size 70 7 V out.length (aggV out)
  grown : w.grownBy wr (some g)
  low : g < w.heap.size
  base : w.heap.size ≤ A
  top : A < wr.heap.size
  apart : ∀ k, V.ownBlock = some k → k ≠ A
  holds : Holds wr A x
  free : Free wr A
theorem grown_cell (w : World) (A j : Nat) (v : Value) : w.grownBy (w.setCell ⟨A, j, none⟩ v) (some A) :=
  ⟨rfl, rfl, rfl, by simp [World.setCell], fun k _ hk => by
    have hne : k ≠ A := fun e => hk (by rw [e])
    rw [Below.heap_setCell _ _ _ _ (fun e => hne e)]⟩
theorem AMid.num {w wr w' : World} {g : Nat} {s : ByteArray} {p q : Nat} {bad b : Bool} {V : Value} {out : List Ag} {A : Nat} {x : Ag} (h : AMid w wr g s p bad V out A x) (hc : CAt w' g s q b) (hg : wr.grownBy w' (some g)) : AMid w w' g s q b V out A x := by
  have hne : some A ≠ some g := fun e => by injection e with e; have := h.low; have := h.base; omega
  have c := fun k => hg.cell_far ⟨A, k, none⟩ h.top hne
  have f := fun k => hg.frozen_far ⟨A, k, none⟩ h.top hne
  refine ⟨hc, own7_num h.own hg h.low, h.grown.trans hg, h.low, h.base, Nat.lt_of_lt_of_le h.top hg.size, h.apart, ?_, ?_⟩
  · obtain ⟨h0, h1, h2, h3, h4, h5, h6⟩ := h.holds
    unfold Holds
    simp only [c]
    exact ⟨h0, h1, h2, h3, h4, h5, h6⟩
  · obtain ⟨h0, h1, h2, h3, h4, h5, h6⟩ := h.free
    unfold Free
    simp only [f]
    exact ⟨h0, h1, h2, h3, h4, h5, h6⟩
/-- Behind a store into the window. -/
theorem AMid.store {w wr : World} {g : Nat} {s : ByteArray} {p : Nat} {bad : Bool} {V : Value} {out : List Ag} {A : Nat} {x : Ag} (h : AMid w wr g s p bad V out A x) (j : Nat) (v : Value) {y : Ag} (hy : Holds (wr.setCell ⟨A, j, none⟩ v) A y) (hf : Free (wr.setCell ⟨A, j, none⟩ v) A) : AMid w (wr.setCell ⟨A, j, none⟩ v) g s p bad V out A y := by
  have hg := grown_cell wr A j v
  have hne : some g ≠ some A := fun e => by injection e with e; have := h.low; have := h.base; omega
  refine ⟨h.pos.grown hg hne, h.own.kept hg ?_, grown_then h.grown hg (fun k e => by injection e with e; subst e; exact Or.inl h.base), h.low, h.base, Nat.lt_of_lt_of_le h.top hg.size, h.apart, hy, hf⟩
  rcases hV : V.ownBlock with _ | k
  · exact Or.inl rfl
  · exact Or.inr (fun e => h.apart k hV (by injection e))
theorem AMid.set2 {w wr : World} {g : Nat} {s : ByteArray} {p : Nat} {bad : Bool} {V : Value} {out : List Ag} {A : Nat} {x : Ag} (h : AMid w wr g s p bad V out A x) (v : Int) : AMid w (wr.setCell ⟨A, 2, none⟩ (.int .i64 v)) g s p bad V out A { x with sm := v } := by
  obtain ⟨h0, h1, h2, h3, h4, h5, h6⟩ := h.holds
  obtain ⟨f0, f1, f2, f3, f4, f5, f6⟩ := h.free
  refine h.store 2 _ ?_ ?_
  · unfold Holds
    simp [go_sem, *]
  · unfold Free
    simp [go_sem, *]
theorem AMid.set3 {w wr : World} {g : Nat} {s : ByteArray} {p : Nat} {bad : Bool} {V : Value} {out : List Ag} {A : Nat} {x : Ag} (h : AMid w wr g s p bad V out A x) (v : Int) : AMid w (wr.setCell ⟨A, 3, none⟩ (.int .i64 v)) g s p bad V out A { x with mn := v } := by
  obtain ⟨h0, h1, h2, h3, h4, h5, h6⟩ := h.holds
  obtain ⟨f0, f1, f2, f3, f4, f5, f6⟩ := h.free
  refine h.store 3 _ ?_ ?_
  · unfold Holds
    simp [go_sem, *]
  · unfold Free
    simp [go_sem, *]
theorem AMid.set4 {w wr : World} {g : Nat} {s : ByteArray} {p : Nat} {bad : Bool} {V : Value} {out : List Ag} {A : Nat} {x : Ag} (h : AMid w wr g s p bad V out A x) (v : Int) : AMid w (wr.setCell ⟨A, 4, none⟩ (.int .i64 v)) g s p bad V out A { x with mx := v } := by
  obtain ⟨h0, h1, h2, h3, h4, h5, h6⟩ := h.holds
  obtain ⟨f0, f1, f2, f3, f4, f5, f6⟩ := h.free
  refine h.store 4 _ ?_ ?_
  · unfold Holds
    simp [go_sem, *]
  · unfold Free
    simp [go_sem, *]
theorem AMid.set5 {w wr : World} {g : Nat} {s : ByteArray} {p : Nat} {bad : Bool} {V : Value} {out : List Ag} {A : Nat} {x : Ag} (h : AMid w wr g s p bad V out A x) (v : Int) : AMid w (wr.setCell ⟨A, 5, none⟩ (.int .i64 v)) g s p bad V out A { x with fi := v } := by
  obtain ⟨h0, h1, h2, h3, h4, h5, h6⟩ := h.holds
  obtain ⟨f0, f1, f2, f3, f4, f5, f6⟩ := h.free
  refine h.store 5 _ ?_ ?_
  · unfold Holds
    simp [go_sem, *]
  · unfold Free
    simp [go_sem, *]
theorem AMid.set6 {w wr : World} {g : Nat} {s : ByteArray} {p : Nat} {bad : Bool} {V : Value} {out : List Ag} {A : Nat} {x : Ag} (h : AMid w wr g s p bad V out A x) (v : Int) : AMid w (wr.setCell ⟨A, 6, none⟩ (.int .i64 v)) g s p bad V out A { x with la := v } := by
  obtain ⟨h0, h1, h2, h3, h4, h5, h6⟩ := h.holds
  obtain ⟨f0, f1, f2, f3, f4, f5, f6⟩ := h.free
  refine h.store 6 _ ?_ ?_
  · unfold Holds
    simp [go_sem, *]
  · unfold Free
    simp [go_sem, *]
end Go.Proofs.YtfojciolhokejaaDoor
