/-
  Rows of entries that read so.
-/
import Derived.Test.YtdpoahjgdndnhaaDoorEByte
set_option maxRecDepth 100000
namespace Go.Proofs.YtdpoahjgdndnhaaDoor
open Go.RowKit
attribute [local go_sem ↓] Go.wp_at_zero Go.wp_at_succ
set_option linter.unusedVariables false

/-- A row of entries that reads so. -/
structure EntRow (w : World) (A : Option Addr) (n cap : Nat) (l : List Ent) : Prop where
  len : l.length = n
  le : n ≤ cap
  max : cap ≤ maxLen
  nil : A = none → cap = 0
  ok : ∀ e ∈ l, e.ok
  cells : 0 < n → ∃ b off, A = some ⟨b, off, none⟩ ∧ b < w.heap.size ∧ ∀ j, j < n →
    w.cell? ⟨b, off + j * 8, none⟩ = some (.int .i64 (l.getD j Ent.zero).kd) ∧ w.cell? ⟨b, off + j * 8 + 1, none⟩ = some (.int .i64 (l.getD j Ent.zero).vw) ∧
    w.cell? ⟨b, off + j * 8 + 2, none⟩ = some (.int .i64 (l.getD j Ent.zero).id) ∧ w.cell? ⟨b, off + j * 8 + 3, none⟩ = some (.int .i64 (l.getD j Ent.zero).tr) ∧
    w.cell? ⟨b, off + j * 8 + 4, none⟩ = some (.int .i64 (l.getD j Ent.zero).fr) ∧ w.cell? ⟨b, off + j * 8 + 5, none⟩ = some (.int .i64 (l.getD j Ent.zero).tl) ∧
    w.cell? ⟨b, off + j * 8 + 6, none⟩ = some (.int .u32 (l.getD j Ent.zero).sm) ∧ w.cell? ⟨b, off + j * 8 + 7, none⟩ = some (str (l.getD j Ent.zero).tx)
theorem EntRow.below {w w' : World} {A : Option Addr} {n cap : Nat} {l : List Ent} (h : EntRow w A n cap l) (hb : Below w.heap.size w w') : EntRow w' A n cap l := by
  refine ⟨h.len, h.le, h.max, h.nil, h.ok, fun hn => ?_⟩
  obtain ⟨b, off, e, hlt, hc⟩ := h.cells hn
  refine ⟨b, off, e, Nat.lt_of_lt_of_le hlt hb.size, fun j hj => ?_⟩
  obtain ⟨h0, h1, h2, h3, h4, h5, h6, h7⟩ := hc j hj
  exact ⟨by rw [hb.cell hlt]; exact h0, by rw [hb.cell hlt]; exact h1, by rw [hb.cell hlt]; exact h2, by rw [hb.cell hlt]; exact h3, by rw [hb.cell hlt]; exact h4, by rw [hb.cell hlt]; exact h5, by rw [hb.cell hlt]; exact h6, by rw [hb.cell hlt]; exact h7⟩

theorem foldOn_step {m : Man} {l : List Ent} {i : Nat} (hi : i < l.length) : foldOn m (l.drop i) = if m.fault (l.getD i Ent.zero) = 0 then foldOn (m.take (l.getD i Ent.zero)) (l.drop (i + 1)) else (m, m.fault (l.getD i Ent.zero)) := by
  rw [List.drop_eq_getElem_cons hi, foldOn]
  have e : l.getD i Ent.zero = l[i] := by rw [List.getD_eq_getElem?_getD, List.getElem?_eq_getElem hi]; rfl
  rw [e]
theorem getD_mem_ent {l : List Ent} {i : Nat} (hi : i < l.length) : l.getD i Ent.zero ∈ l := by
  rw [List.getD_eq_getElem?_getD, List.getElem?_eq_getElem hi]
  exact List.getElem_mem hi

/-- So from this world on. -/
def Later (w : World) (P : World → Prop) : Prop := ∀ u, Below w.heap.size w u → P u
theorem Later.on {w w' : World} {P : World → Prop} (h : Later w P) (hb : Below w.heap.size w w') : Later w' P := fun u hu => h u (past hb hu)
theorem Later.now {w : World} {P : World → Prop} (h : Later w P) : P w := h w (Below.refl _ _)
end Go.Proofs.YtdpoahjgdndnhaaDoor
