/-
  All of one sample, of none, of any; what told tells: true, and nothing that was there is written.
-/
import Derived.Test.YtinplchaimejbaaAll
namespace Go.Proofs.Ytinplchaimejbaa
open Go.RowKit
attribute [local go_sem ↓] Go.wp_at_zero Go.wp_at_succ

theorem Samps.below {w w' : World} {A : Option Addr} {l : List (Int × Int)} (h : Samps w A l) (hb : Below w.heap.size w w') : Samps w' A l := by
  refine ⟨h.1, fun hp => ?_⟩
  obtain ⟨b, off, rfl, hc⟩ := h.2 hp
  refine ⟨b, off, rfl, fun j hj => ?_⟩
  obtain ⟨h0, h1⟩ := hc j hj
  rw [hb.cell (World.block_lt_of_cell? w _ h0), hb.cell (World.block_lt_of_cell? w _ h1)]
  exact ⟨h0, h1⟩
theorem Samps.take {w : World} {A : Option Addr} {l : List (Int × Int)} (h : Samps w A l) (k : Nat) : Samps w A (l.take k) := by
  refine ⟨fun s hs => h.1 s (List.mem_of_mem_take hs), fun hp => ?_⟩
  rw [List.length_take] at hp
  obtain ⟨b, off, e, hc⟩ := h.2 (by omega)
  refine ⟨b, off, e, fun j hj => ?_⟩
  rw [List.length_take] at hj
  have e : (l.take k).getD j (0, 0) = l.getD j (0, 0) := by
    rw [List.getD_eq_getElem?_getD, List.getD_eq_getElem?_getD, List.getElem?_take, if_pos (by omega)]
  rw [e]
  exact hc j (by omega)
theorem Samps.drop {w : World} {b off : Nat} {l : List (Int × Int)} (h : Samps w (some ⟨b, off, none⟩) l) (k : Nat) : Samps w (some ⟨b, off + k * 2, none⟩) (l.drop k) := by
  refine ⟨fun s hs => h.1 s (List.mem_of_mem_drop hs), fun hp => ?_⟩
  rw [List.length_drop] at hp
  obtain ⟨b', off', e, hc⟩ := h.2 (by omega)
  injection e with e
  injection e with e1 e2
  subst e1 e2
  refine ⟨b, off + k * 2, rfl, fun j hj => ?_⟩
  rw [List.length_drop] at hj
  have e : (l.drop k).getD j (0, 0) = l.getD (k + j) (0, 0) := by
    rw [List.getD_eq_getElem?_getD, List.getD_eq_getElem?_getD, List.getElem?_drop]
  rw [e, show off + k * 2 + j * 2 = off + (k + j) * 2 by omega]
  exact hc (k + j) (by omega)
end Go.Proofs.Ytinplchaimejbaa
