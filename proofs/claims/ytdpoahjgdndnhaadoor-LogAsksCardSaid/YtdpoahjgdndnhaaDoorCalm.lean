/-
  Regions that draw their order, whose operations read and whose callees may make memory.
-/
import Derived.Test.YtdpoahjgdndnhaaDoorPParse
import Derived.Deep.RegionHeld3
import Derived.ChangeKeysEq
namespace Go.Proofs.YtdpoahjgdndnhaaDoor
open Go.RowKit
set_option linter.unusedVariables false

/-- The worlds that lie past ws and leave it alone. -/
def SubB (ws : World) : Type := {u : World // Below ws.heap.size ws u}
def SubB.w {ws : World} (u : SubB ws) : World := u.1
theorem SubB.le {ws : World} (u : SubB ws) : Below ws.heap.size ws u.w := u.2
instance (ws : World) : Nonempty (SubB ws) := ⟨⟨ws, Below.refl _ _⟩⟩
/-- A region that draws its order, whose operations read and whose callees may make memory: one walk, in the text's order. -/
theorem wp_region_calm {P : Program} {id : Nat} {Q : Exit → Act → World → Prop} {a : Act} {w : World} {l : List Oper} (hm : P.follows .mixedOrders = true) (hB : Region.lexB .any l.toArray = true)
    (h : wpQuiet P l.toArray (fun w' => ∃ u : SubB w, w' = u.w) (fun a' => ∀ w', (∃ u : SubB w, w' = u.w) → Q .normal a' w') l a) : (Code.region id l.toArray true).wp P Q a w :=
  wp_region_quiet (C := fun w' => ∃ u : SubB w, w' = u.w) hm hB ⟨⟨w.drew, below_drewN w 1⟩, rfl⟩ (by simpa using h)
theorem calm_call {P : Program} {f : FuncId} {args : Array Value} {ws : World} {u : SubB ws} {v : Value} (h : Calls P f args u.w fun e w' => e = .returned v ∧ Below u.w.heap.size u.w w') :
    Calls P f args u.w fun e w'' => e = .returned v ∧ ∃ u' : SubB ws, w'' = u'.w :=
  h.mono fun _ w' ⟨he, hb⟩ => ⟨he, ⟨w', past u.le hb⟩, rfl⟩
theorem calm_same {P : Program} {f : FuncId} {args : Array Value} {ws : World} {u : SubB ws} {v : Value} (h : Calls P f args u.w fun e w' => e = .returned v ∧ u.w = w') :
    Calls P f args u.w fun e w'' => e = .returned v ∧ ∃ u' : SubB ws, w'' = u'.w :=
  h.mono fun _ w' ⟨he, hb⟩ => ⟨he, u, hb.symm⟩
theorem Tryd.info2 : (Tryd.prog.info? 2).map (fun i => (i.zero, i.size, i.bytes)) = some (some (.int .i64 0), 1, 8) := by kernel_rfl
theorem eqArr (a0 a1 a2 a3 b0 b1 b2 b3 : Int) (w : World) : (Op.equalIn 9999 37 (.agg #[.int .i64 a0, .int .i64 a1, .int .i64 a2, .int .i64 a3]) (.agg #[.int .i64 b0, .int .i64 b1, .int .i64 b2, .int .i64 b3])).run Tryd.prog w = .ok (a0 == b0 && (a1 == b1 && (a2 == b2 && a3 == b3))) w := by
  obtain ⟨i0, hi, hz0, hz1, hz2⟩ := info_parts Tryd.info2
  rw [run_equalIn_array w 9998 _ _ Tryd.underlying37 hi]
  have hc : Tryd.prog.cellsOf 2 = 1 := by kernel_rfl
  have hr : List.range 4 = [0, 1, 2, 3] := by decide
  rw [hc, hr]
  simp [Op.eqItems, go_sem]
  by_cases h0 : a0 = b0 <;> by_cases h1 : a1 = b1 <;> by_cases h2 : a2 = b2 <;> by_cases h3 : a3 = b3 <;> simp [h0, h1, h2, h3]
end Go.Proofs.YtdpoahjgdndnhaaDoor
