/-
  May and Join: what each returns at every argument; nothing that was there is written.
-/
import Derived.Test.YtinplchaimejbaaLeaf
namespace Go.Proofs.Ytinplchaimejbaa
open Go.RowKit

/-- The variable at block g holds the aggregate a. -/
def Holds (w : World) (g : Nat) (a : Ag) : Prop :=
  w.cell? ⟨g, 0, none⟩ = some (.int .i64 a.fr) ∧ w.cell? ⟨g, 1, none⟩ = some (.int .i64 a.cn) ∧ w.cell? ⟨g, 2, none⟩ = some (.int .i64 a.sm) ∧ w.cell? ⟨g, 3, none⟩ = some (.int .i64 a.mn) ∧
  w.cell? ⟨g, 4, none⟩ = some (.int .i64 a.mx) ∧ w.cell? ⟨g, 5, none⟩ = some (.int .i64 a.fi) ∧ w.cell? ⟨g, 6, none⟩ = some (.int .i64 a.la)
theorem Holds.below {w w' : World} {g : Nat} {a : Ag} (h : Holds w g a) (hb : Below w.heap.size w w') : Holds w' g a := by
  obtain ⟨h0, h1, h2, h3, h4, h5, h6⟩ := h
  have hl : g < w.heap.size := World.block_lt_of_cell? w _ h0
  refine ⟨?_, ?_, ?_, ?_, ?_, ?_, ?_⟩ <;> (rw [hb.cell hl]; assumption)

theorem box_below {w w2 : World} {o : Obj} (h : Below (w.alloc o).heap.size (w.alloc o) w2) : Below w.heap.size w w2 := by
  have h0 : Below w.heap.size w (w.alloc o) := (Below.refl _ _).alloc (Nat.le_refl _) _
  exact h0.trans (h.mono h0.size)

/-- The variable at block g is not frozen. -/
def Free (w : World) (g : Nat) : Prop :=
  w.frozen? ⟨g, 0, none⟩ = false ∧ w.frozen? ⟨g, 1, none⟩ = false ∧ w.frozen? ⟨g, 2, none⟩ = false ∧ w.frozen? ⟨g, 3, none⟩ = false ∧ w.frozen? ⟨g, 4, none⟩ = false ∧ w.frozen? ⟨g, 5, none⟩ = false ∧ w.frozen? ⟨g, 6, none⟩ = false
theorem Free.below {w w' : World} {g : Nat} (h : Free w g) (hl : g < w.heap.size) (hb : Below w.heap.size w w') : Free w' g := by
  obtain ⟨h0, h1, h2, h3, h4, h5, h6⟩ := h
  refine ⟨?_, ?_, ?_, ?_, ?_, ?_, ?_⟩ <;> (rw [hb.frozen hl]; assumption)
end Go.Proofs.Ytinplchaimejbaa
