/-
  Rows of aggregates that a call makes: what they hold, what a reader has of them.
-/
import Derived.Test.YtinplchaimejbaaTAlign
namespace Go.Proofs.Ytinplchaimejbaa
open Go.RowKit

def Ag.cells (a : Ag) : List Value := [.int .i64 a.fr, .int .i64 a.cn, .int .i64 a.sm, .int .i64 a.mn, .int .i64 a.mx, .int .i64 a.fi, .int .i64 a.la]
def aggV (l : List Ag) : List Value := l.flatMap Ag.cells
theorem aggV_cons (a : Ag) (l : List Ag) : aggV (a :: l) = a.cells ++ aggV l := rfl
theorem aggV_append (a b : List Ag) : aggV (a ++ b) = aggV a ++ aggV b := by simp [aggV]
theorem aggV_one (a : Ag) : aggV [a] = a.cells := by simp [aggV]
theorem aggV_length (l : List Ag) : (aggV l).length = l.length * 7 := by
  induction l with
  | nil => rfl
  | cons a r ih =>
    rw [aggV_cons, List.length_append, ih, List.length_cons]
    show 7 + _ = _
    omega
theorem aggV_get (l : List Ag) : ∀ (j i : Nat), j < l.length → i < 7 → (aggV l)[j * 7 + i]? = (agAt l j).cells[i]? := by
  induction l with
  | nil => intro j i hj; simp at hj
  | cons a r ih =>
    intro j i hj hi
    rw [aggV_cons]
    match j with
    | 0 =>
      rw [List.getElem?_append_left (by show 0 * 7 + i < 7; omega)]
      simp [agAt]
    | j + 1 =>
      rw [List.getElem?_append_right (by show 7 ≤ (j + 1) * 7 + i; omega)]
      have e : (j + 1) * 7 + i - a.cells.length = j * 7 + i := by
        show (j + 1) * 7 + i - 7 = _
        omega
      rw [e, ih j i (by simpa using hj) hi]
      simp [agAt]
theorem cells_one (a : Ag) : ∀ u ∈ a.cells, u.oneCell' = true := by
  intro u hu
  simp [Ag.cells] at hu
  rcases hu with rfl | rfl | rfl | rfl | rfl | rfl | rfl <;> rfl
/-- What a reader has of a row: its length, its cells, its bounds. -/
def RowOf (w : World) (A : Option Addr) (len cap : Nat) (l : List Ag) : Prop := l.length = len ∧ Aggs w A l ∧ len ≤ cap ∧ cap ≤ maxLen ∧ (A = none → cap = 0)
theorem RowOf.below {w w' : World} {A : Option Addr} {len cap : Nat} {l : List Ag} (h : RowOf w A len cap l) (hb : Below w.heap.size w w') : RowOf w' A len cap l := ⟨h.1, h.2.1.below hb, h.2.2⟩
theorem Holds.news {w : World} {g : Nat} {a : Ag} (h : Holds w g a) : ∀ j u, a.cells[j]? = some u → w.cell? ((⟨g, 0, none⟩ : Addr).add j) = some u := by
  obtain ⟨h0, h1, h2, h3, h4, h5, h6⟩ := h
  intro j u hj
  rw [addr_add, Nat.zero_add]
  match j, hj with
  | 0, hj => simp [Ag.cells] at hj; subst hj; exact h0
  | 1, hj => simp [Ag.cells] at hj; subst hj; exact h1
  | 2, hj => simp [Ag.cells] at hj; subst hj; exact h2
  | 3, hj => simp [Ag.cells] at hj; subst hj; exact h3
  | 4, hj => simp [Ag.cells] at hj; subst hj; exact h4
  | 5, hj => simp [Ag.cells] at hj; subst hj; exact h5
  | 6, hj => simp [Ag.cells] at hj; subst hj; exact h6
  | n + 7, hj => simp [Ag.cells] at hj

def lenOf : Value → Nat
  | .slice _ n _ => n
  | _ => 0
theorem Samps.sub {w : World} {b off : Nat} {l : List (Int × Int)} (h : Samps w (some ⟨b, off, none⟩) l) (c : Nat) : Samps w (some ⟨b, off, none⟩) (l.take c) := by
  refine ⟨fun s hs => h.1 s (List.mem_of_mem_take hs), fun hp => ?_⟩
  rw [List.length_take] at hp
  obtain ⟨b', off', e, hc⟩ := h.2 (by omega)
  refine ⟨b', off', e, fun j hj => ?_⟩
  rw [List.length_take] at hj
  have := hc j (by omega)
  have e2 : (l.take c).getD j (0, 0) = l.getD j (0, 0) := by
    rw [List.getD_eq_getElem?_getD, List.getD_eq_getElem?_getD, List.getElem?_take_of_lt (by omega)]
  rw [e2]
  exact this
theorem Samps.rest {w : World} {b off : Nat} {l : List (Int × Int)} (h : Samps w (some ⟨b, off, none⟩) l) (c : Nat) : Samps w (some ⟨b, off + c * 2, none⟩) (l.drop c) := by
  refine ⟨fun s hs => h.1 s (List.mem_of_mem_drop hs), fun hp => ?_⟩
  rw [List.length_drop] at hp
  obtain ⟨b', off', e, hc⟩ := h.2 (by omega)
  injection e with e
  injection e with e1 e2
  subst e1 e2
  refine ⟨b, off + c * 2, rfl, fun j hj => ?_⟩
  rw [List.length_drop] at hj
  have := hc (c + j) (by omega)
  have e2 : (l.drop c).getD j (0, 0) = l.getD (c + j) (0, 0) := by
    rw [List.getD_eq_getElem?_getD, List.getD_eq_getElem?_getD, List.getElem?_drop]
  rw [e2, show off + c * 2 + j * 2 = off + (c + j) * 2 by omega]
  exact this
theorem Samps.nil {w : World} {A B : Option Addr} {l : List (Int × Int)} (h : Samps w A l) (h0 : l.length = 0) : Samps w B l := ⟨h.1, fun hp => absurd hp (by omega)⟩
end Go.Proofs.Ytinplchaimejbaa
