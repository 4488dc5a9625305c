/-
  What the laws' arguments give a walk: rows of integers, of aggregates; the table of widths as the program lays it.
-/
import Derived.Test.YtepancmkopifpaaGreatDoorRows
import Derived.Test.YtepancmkopifpaaGreatDoorTRow
import Derived.ProofKit
import Derived.OpenShut
import Derived.LaidMore
import Derived.Lib.LaidTab
import Derived.Stop.Joined
import Derived.Deep.SlicePairs
set_option maxRecDepth 100000
namespace Go.Proofs.YtepancmkopifpaaGreatDoor
open Go.ChangeShapes Go.WideShapes Go.ChangeAt Go.RowKit

theorem own : ownKnob Tryz.prog.godebug = none := by kernel_rfl
theorem laidOut : laidOutB Tryz.prog = true := by kernel_rfl
theorem gWidths : Tryz.prog.globalNamed "twinkeep/tier.widths" = some 0 := by kernel_rfl
theorem tWidths : (Tryz.prog.globals[0]?).map (·.type) = some 120 := by kernel_rfl

/-- The heap that the program's own start leaves meets the condition. -/
theorem door_met (os : Os) (args : Array Value) : laidMetH Tryz.prog [("twinkeep/tier.widths", Rows.laid_twinkeep_tier_widths)] ((World.doorLaid Tryz.prog 400 os).forCall (fun _ _ => 0) ⟨#[], args, []⟩).memory :=
  laidMetH_of_parts3 (fuel := 8) (laidMet_of_run' 8 (by kernel_rfl) (by kernel_rfl)) (by kernel_rfl) (by kernel_rfl)

theorem wid_of_laid {W : World} (h : laidMetH Tryz.prog [("twinkeep/tier.widths", Rows.laid_twinkeep_tier_widths)] W) : Wid W := by
  rw [MakeChecks.laidMetH_plain _ _ _ (by kernel_rfl)] at h
  have hT : Lib.TabIs Tryz.prog W "twinkeep/tier.widths" .i64 [1, 5, 60, 1440] := Lib.tabIs_of_head gWidths tWidths Tryz.underlying120 Tryz.underlying2 (by kernel_rfl) (by kernel_rfl) h
  intro i hi
  have := hT.cell gWidths i hi
  rw [this]
  match i, hi with
  | 0, _ => rfl
  | 1, _ => rfl
  | 2, _ => rfl
  | 3, _ => rfl

/-- The slice at A reads as the integers l. -/
def Ints (w : World) (A : Option Addr) (len cap : Nat) (l : List Int) : Prop :=
  l.length = len ∧ (∀ n ∈ l, In64 n) ∧ (0 < len → ∃ b off, A = some ⟨b, off, none⟩ ∧ ∀ j, j < len → w.cell? ⟨b, off + j, none⟩ = some (.int .i64 (l.getD j 0))) ∧ len ≤ cap ∧ cap ≤ maxLen ∧ (A = none → cap = 0)

section
variable {H : Type} {enc : TypeId × Value → H} {W : World} {base : Nat} {spare : Nat → Bool} {held : Bool}
theorem open_ints1 {t e : TypeId} (ht : Tryz.prog.underlying t = some (.slice e)) (he : Tryz.prog.underlying e = some (.int .i64)) (hc : Tryz.prog.cellsOf e = 1) {a : Option Addr} {len cap : Nat} {d : DataW H} {p : List MemPlace}
    (h : DataW.Trod enc Tryz.prog W base (fun _ => true) held t (.slice a len cap) d p) : ∃ l : List Int, Ints W a len cap l := by
  obtain ⟨fuel, hf⟩ := h
  rcases open_ints ht he hc hf with ⟨hcs, _⟩ | ⟨x, l, c, zs, hcs, _, hl, hm, hz, _, hcell, hwz⟩
  · simp [Value.cells] at hcs
    obtain ⟨rfl, rfl, rfl⟩ := hcs
    exact ⟨[], rfl, by simp, fun h => absurd h (by simp), Nat.le_refl _, by unfold maxLen; omega, fun _ => rfl⟩
  · simp [Value.cells] at hcs
    obtain ⟨rfl, rfl, rfl⟩ := hcs
    simp at hz
    refine ⟨zs.take len, by rw [List.length_take]; omega, fun n hn => fits_i64 (hwz n (List.mem_of_mem_take hn)), fun h0 => ?_, hl, hm, fun e => by cases e⟩
    obtain ⟨b, off, spot⟩ := x
    have hs : spot = none := by simpa [Addr.add] using World.cell?_spot (hcell 0 (by omega))
    subst hs
    refine ⟨b, off, rfl, fun j hj => ?_⟩
    have := hcell j (by omega)
    rw [addr_add] at this
    rw [this, List.getD_eq_getElem?_getD, List.getD_eq_getElem?_getD, List.getElem?_take_of_lt hj]

instance : Inhabited Ag := ⟨Ag.zero⟩
theorem open_aggs {a : Option Addr} {len cap : Nat} {d : DataW H} {p : List MemPlace} (h : DataW.Trod enc Tryz.prog W base (fun _ => true) held 23 (.slice a len cap) d p) : ∃ l : List Ag, RowOf W a len cap l := by
  obtain ⟨fuel, hf⟩ := h
  rcases Go.Deep.open_slice Tryz.underlying23 hf with ⟨hcs, _⟩ | ⟨x, l, c, m, n, D, Pl, hcs, _, hl, hm, hmm, _, hx⟩
  · simp [Value.cells] at hcs
    obtain ⟨rfl, rfl, rfl⟩ := hcs
    exact ⟨[], rfl, ⟨by simp, fun h => absurd h (by simp)⟩, Nat.le_refl _, by unfold maxLen; omega, fun _ => rfl⟩
  · simp [Value.cells] at hcs
    obtain ⟨rfl, rfl, rfl⟩ := hcs
    simp only [if_true] at hmm
    subst hmm
    obtain ⟨b, off, spot⟩ := x
    by_cases hp : 0 < len
    case neg =>
      obtain rfl : len = 0 := by omega
      exact ⟨[], rfl, ⟨by simp, fun h => absurd h (by simp)⟩, hl, hm, fun e => by cases e⟩
    obtain rfl : spot = none := by
      obtain ⟨cs', h1, h2⟩ := hx 0 (by omega)
      rw [cells26] at h1
      obtain ⟨_, hlen, hcell⟩ := World.cells?_some h1
      match cs', hlen with
      | v0 :: _, _ =>
        have e0 := hcell 0 (by omega)
        rw [List.getElem?_cons_zero] at e0
        simpa [Addr.add] using World.cell?_spot e0
    have each : ∀ i, i < len → ∃ a : Ag, a.ok ∧ HoldsAt W b (off + i * 7) a := fun i hi => by
      obtain ⟨cs', h1, h2⟩ := hx i (by omega)
      rw [cells26] at h1
      obtain ⟨_, hlen, hcell⟩ := World.cells?_some h1
      obtain ⟨xs, k, hk, hxy, _, hxl, hg⟩ := DataW.trod_struct Tryz.underlying50 h2
      match xs, hxl, cs', hlen with
      | [y0, y1, y2, y3, y4, y5, y6], _, [v0, v1, v2, v3, v4, v5, v6], _ =>
        obtain ⟨z0, rfl, o0⟩ := cell_int (show DataW.trod enc Tryz.prog W base _ held k 2 [v0] = some y0 by have := hg 0 _ rfl; simpa [cells2] using this)
        obtain ⟨z1, rfl, o1⟩ := cell_int (show DataW.trod enc Tryz.prog W base _ held k 2 [v1] = some y1 by have := hg 1 _ rfl; simpa [cells2] using this)
        obtain ⟨z2, rfl, o2⟩ := cell_int (show DataW.trod enc Tryz.prog W base _ held k 2 [v2] = some y2 by have := hg 2 _ rfl; simpa [cells2] using this)
        obtain ⟨z3, rfl, o3⟩ := cell_int (show DataW.trod enc Tryz.prog W base _ held k 2 [v3] = some y3 by have := hg 3 _ rfl; simpa [cells2] using this)
        obtain ⟨z4, rfl, o4⟩ := cell_int (show DataW.trod enc Tryz.prog W base _ held k 2 [v4] = some y4 by have := hg 4 _ rfl; simpa [cells2] using this)
        obtain ⟨z5, rfl, o5⟩ := cell_int (show DataW.trod enc Tryz.prog W base _ held k 2 [v5] = some y5 by have := hg 5 _ rfl; simpa [cells2] using this)
        obtain ⟨z6, rfl, o6⟩ := cell_int (show DataW.trod enc Tryz.prog W base _ held k 2 [v6] = some y6 by have := hg 6 _ rfl; simpa [cells2] using this)
        have c : ∀ j, j < 7 → W.cell? ⟨b, off + i * 7 + j, none⟩ = ([Value.int .i64 z0, .int .i64 z1, .int .i64 z2, .int .i64 z3, .int .i64 z4, .int .i64 z5, .int .i64 z6] : List Value)[j]? := fun j hj => by
          have := hcell j hj
          rw [addr_add, addr_add] at this
          exact this
        exact ⟨⟨z0, z1, z2, z3, z4, z5, z6⟩, ⟨o0, o1, o2, o3, o4, o5, o6⟩, c 0 (by decide), c 1 (by decide), c 2 (by decide), c 3 (by decide), c 4 (by decide), c 5 (by decide), c 6 (by decide)⟩
    obtain ⟨f, hf⟩ := Go.Deep.choose_lt each
    refine ⟨(List.range len).map f, by simp, ⟨fun a ha => ?_, fun _ => ?_⟩, hl, hm, fun e => by cases e⟩
    · obtain ⟨i, hi, rfl⟩ := List.mem_map.1 ha
      exact (hf i (List.mem_range.1 hi)).1
    · refine ⟨b, off, rfl, fun j hj => ?_⟩
      have hj' : j < len := by simpa using hj
      have e : agAt ((List.range len).map f) j = f j := by simp [agAt, hj']
      rw [e]
      exact (hf j hj').2
end
end Go.Proofs.YtepancmkopifpaaGreatDoor
