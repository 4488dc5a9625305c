/-
  What the laws are told of their arguments; remainders.
-/
import Derived.Test.YtinplchaimejbaaHTold
namespace Go.Proofs.Ytinplchaimejbaa
open Go.RowKit
set_option linter.unusedVariables false

/-- A slice of integers that came in: nil, or a row of 'cap' cells, the first 'len' of them its elements. -/
def IsRow (k : IntKind) (w : World) (a : Option Addr) (len cap : Nat) (zs : List Int) : Prop :=
  (a = none ∧ len = 0 ∧ cap = 0 ∧ zs = []) ∨
  ∃ x, a = some x ∧ len ≤ cap ∧ cap ≤ maxLen ∧ zs.length = cap ∧ (∀ i, i < zs.length → w.cell? (x.add i) = some (.int k (zs.getD i 0))) ∧ ∀ n ∈ zs, (Lit.int k n).wf = true

theorem wrap_u64_rem {a : Int} (m : Int) (hm : 0 < m) : ∃ x : Int, (IntKind.u64.wrap a).tmod m = x ∧ 0 ≤ x ∧ x < m := by
  have h0 : 0 ≤ IntKind.u64.wrap a := by rw [IntKind.wrap_u64]; omega
  exact ⟨_, rfl, Int.tmod_nonneg m h0, Int.tmod_lt_of_pos _ hm⟩
theorem pol_may {c s : Int} (h1 : 1 ≤ c) (h2 : c ≤ 64) (h3 : 1 ≤ s) (h4 : s ≤ 200) : Pol.may ⟨60, 600, 6000, 0, c, s⟩ :=
  ⟨(show Pol.ages ⟨60, 600, 6000, 0, 8, 30⟩ by decide), ⟨h1, h2⟩, h3, h4⟩

/-- The slice at A reads as the integers l. -/
def Ints (w : World) (A : Option Addr) (len cap : Nat) (l : List Int) : Prop :=
  l.length = len ∧ (∀ n ∈ l, In64 n) ∧ (0 < len → ∃ b off, A = some ⟨b, off, none⟩ ∧ ∀ j, j < len → w.cell? ⟨b, off + j, none⟩ = some (.int .i64 (l.getD j 0))) ∧ len ≤ cap ∧ cap ≤ maxLen ∧ (A = none → cap = 0)
theorem ints_of_row {w : World} {a : Option Addr} {len cap : Nat} {zs : List Int} (h : IsRow .i64 w a len cap zs) : ∃ l : List Int, Ints w a len cap l := by
  rcases h with ⟨rfl, rfl, rfl, rfl⟩ | ⟨x, rfl, hl, hm, hz, hcell, hwz⟩
  · exact ⟨[], rfl, by simp, fun h => absurd h (by simp), Nat.le_refl _, by unfold maxLen; omega, fun _ => rfl⟩
  · refine ⟨zs.take len, by rw [List.length_take]; omega, fun n hn => fits_i64 (hwz n (List.mem_of_mem_take hn)), fun h0 => ?_, hl, hm, fun e => by cases e⟩
    obtain ⟨b, off, spot⟩ := x
    have hs : spot = none := by simpa [Addr.add] using World.cell?_spot (hcell 0 (by omega))
    subst hs
    refine ⟨b, off, rfl, fun j hj => ?_⟩
    have := hcell j (by omega)
    rw [addr_add] at this
    rw [this, List.getD_eq_getElem?_getD, List.getD_eq_getElem?_getD, List.getElem?_take_of_lt hj]

/-- A head's variable at block g, its row in memory from B on. -/
structure HIs (wr : World) (B g : Nat) (h : Hd) (A : Option Addr) (n cap : Nat) : Prop where
  v : HVar wr g (.int .i64 h.sl) (.slice A n cap)
  row : Row wr A cap h.l
  len : h.l.length = n
  fresh : ∀ a, A = some a → B ≤ a.block
theorem HIs.below {wr w' : World} {B g : Nat} {h : Hd} {A : Option Addr} {n cap : Nat} (H : HIs wr B g h A n cap) (hb : Below wr.heap.size wr w') : HIs w' B g h A n cap := ⟨H.v.below hb, H.row.below hb, H.len, H.fresh⟩
theorem HVar.other {w : World} {g : Nat} {a b : Value} (h : HVar w g a b) (p : Addr) (u : Value) (hp : p.block ≠ g) : HVar (w.setCell p u) g a b := by
  have e : (w.setCell p u).heap[g]? = w.heap[g]? := Below.heap_setCell _ _ _ _ (fun e => hp e.symm)
  exact ⟨(World.cell?_of_block (w := w) (a := ⟨g, 0, none⟩) e).trans h.c0, (World.cell?_of_block (w := w) (a := ⟨g, 1, none⟩) e).trans h.c1, (World.frozen?_of_block (w := w) (a := ⟨g, 0, none⟩) e).trans h.f0, (World.frozen?_of_block (w := w) (a := ⟨g, 1, none⟩) e).trans h.f1⟩
theorem HVar.put {w : World} {g : Nat} {a b : Value} (h : HVar w g a b) (u u' : Value) : HVar ((w.setCell ⟨g, 0, none⟩ u).setCell ⟨g, 1, none⟩ u') g u u' := by
  have hl := h.lt
  obtain ⟨c0, c1, f0, f1⟩ := h
  constructor
  · go_simp
  · go_simp
  · go_simp
  · go_simp
theorem HIs.other {wr : World} {B g : Nat} {h : Hd} {A : Option Addr} {n cap : Nat} (H : HIs wr B g h A n cap) (p : Addr) (u : Value) (hp : p.block ≠ g) (hB : p.block < B) : HIs (wr.setCell p u) B g h A n cap :=
  ⟨H.v.other p u hp, H.row.kept (fun a e => Below.heap_setCell _ _ _ _ (by have := H.fresh a e; omega)), H.len, H.fresh⟩
/-- A row that a call gave out, stored into the variable. -/
theorem HIs.store {wr : World} {B g F : Nat} {a b : Value} {h : Hd} {A : Option Addr} {n cap : Nat} (hv : HVar wr g a b) (hr : Row wr A cap h.l) (hn : h.l.length = n) (hf : ∀ a, A = some a → F ≤ a.block) (hB : B ≤ F) (hg : g < F) :
    HIs ((wr.setCell ⟨g, 0, none⟩ (.int .i64 h.sl)).setCell ⟨g, 1, none⟩ (.slice A n cap)) B g h A n cap := by
  refine ⟨hv.put _ _, ?_, hn, fun a e => Nat.le_trans hB (hf a e)⟩
  exact (hr.kept (fun a e => Below.heap_setCell _ _ _ _ (by have := hf a e; simp only; omega))).kept (fun a e => Below.heap_setCell _ _ _ _ (by have := hf a e; simp only; omega))
/-- Put of a head that may be. -/
theorem HIs.puts {wr : World} {B g : Nat} {h : Hd} {A : Option Addr} {n cap : Nat} (H : HIs wr B g h A n cap) (hm : h.may) {t v : Int} (ht : inT t) (hv : In64 v) :
    Calls Try.prog 8 #[.agg #[.int .i64 h.sl, .slice A n cap], .agg #[.int .i64 t, .int .i64 v]] wr (PutPost h.sl h.l t v wr) := put_any (S := h.sl) H.row H.len (show Hd.may ⟨h.sl, h.l⟩ from hm) ht hv
theorem putH_sl (h : Hd) (s : Int × Int) : (putH h s).1.sl = h.sl := by
  unfold putH
  split
  · rfl
  · split
    · rfl
    · split
      · rfl
      · split <;> rfl
end Go.Proofs.Ytinplchaimejbaa
