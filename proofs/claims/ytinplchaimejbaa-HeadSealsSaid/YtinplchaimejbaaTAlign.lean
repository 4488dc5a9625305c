/-
  Aligned: what it returns of every row of windows; nothing that was there is written.
-/
import Derived.Test.YtinplchaimejbaaTRise
import Derived.Deep.RegionHeld3
namespace Go.Proofs.Ytinplchaimejbaa
open Go.RowKit
attribute [local go_sem ↓] Go.wp_at_zero Go.wp_at_succ
set_option linter.unusedVariables false

/-- The worlds that lie past ws and leave it alone. -/
def SubB (ws : World) : Type := {u : World // Below ws.heap.size ws u}
def SubB.w {ws : World} (u : SubB ws) : World := u.1
theorem SubB.le {ws : World} (u : SubB ws) : Below ws.heap.size ws u.w := u.2
instance (ws : World) : Nonempty (SubB ws) := ⟨⟨ws, Below.refl _ _⟩⟩
/-- A region that draws its order, whose operations read and whose callees may make memory: one walk, in the text's order. -/
theorem wp_region_calm {P : Program} {id : Nat} {Q : Exit → Act → World → Prop} {a : Act} {w : World} {l : List Oper} (hm : P.follows .mixedOrders = true) (hB : Region.lexB .any l.toArray = true)
    (h : wpQuiet P l.toArray (fun w' => ∃ u : SubB w, w' = u.w) (fun a' => ∀ w', (∃ u : SubB w, w' = u.w) → Q .normal a' w') l a) : (Code.region id l.toArray true).wp P Q a w :=
  wp_region_quiet (C := fun w' => ∃ u : SubB w, w' = u.w) hm hB ⟨⟨w.drew, belowN w 1⟩, rfl⟩ (by simpa using h)
theorem calm_call {P : Program} {f : FuncId} {args : Array Value} {ws : World} {u : SubB ws} {v : Value} (h : Calls P f args u.w fun e w' => e = .returned v ∧ Below u.w.heap.size u.w w') :
    Calls P f args u.w fun e w'' => e = .returned v ∧ ∃ u' : SubB ws, w'' = u'.w :=
  h.mono fun _ w' ⟨he, hb⟩ => ⟨he, ⟨w', past u.le hb⟩, rfl⟩
theorem calm_same {P : Program} {f : FuncId} {args : Array Value} {ws : World} {u : SubB ws} {v : Value} (h : Calls P f args u.w fun e w' => e = .returned v ∧ u.w = w') :
    Calls P f args u.w fun e w'' => e = .returned v ∧ ∃ u' : SubB ws, w'' = u'.w :=
  h.mono fun _ w' ⟨he, hb⟩ => ⟨he, u, hb.symm⟩

/-- Seven cells from o on hold the aggregate a. -/
def HoldsAt (w : World) (b o : Nat) (a : Ag) : Prop :=
  w.cell? ⟨b, o, none⟩ = some (.int .i64 a.fr) ∧ w.cell? ⟨b, o + 1, none⟩ = some (.int .i64 a.cn) ∧ w.cell? ⟨b, o + 2, none⟩ = some (.int .i64 a.sm) ∧ w.cell? ⟨b, o + 3, none⟩ = some (.int .i64 a.mn) ∧
  w.cell? ⟨b, o + 4, none⟩ = some (.int .i64 a.mx) ∧ w.cell? ⟨b, o + 5, none⟩ = some (.int .i64 a.fi) ∧ w.cell? ⟨b, o + 6, none⟩ = some (.int .i64 a.la)
theorem HoldsAt.lt {w : World} {b o : Nat} {a : Ag} (h : HoldsAt w b o a) : b < w.heap.size := World.block_lt_of_cell? w _ h.1
theorem HoldsAt.under {w w' : World} {b o B : Nat} {a : Ag} (h : HoldsAt w b o a) (hb : Below B w w') (hl : b < B) : HoldsAt w' b o a := by
  obtain ⟨h0, h1, h2, h3, h4, h5, h6⟩ := h
  refine ⟨?_, ?_, ?_, ?_, ?_, ?_, ?_⟩ <;> (rw [hb.cell hl]; assumption)
theorem HoldsAt.below {w w' : World} {b o : Nat} {a : Ag} (h : HoldsAt w b o a) (hb : Below w.heap.size w w') : HoldsAt w' b o a := h.under hb h.lt
/-- The slice at A reads as the aggregates l. -/
def Aggs (w : World) (A : Option Addr) (l : List Ag) : Prop :=
  (∀ a ∈ l, a.ok) ∧ (0 < l.length → ∃ b off, A = some ⟨b, off, none⟩ ∧ ∀ j, j < l.length → HoldsAt w b (off + j * 7) (agAt l j))
theorem Aggs.below {w w' : World} {A : Option Addr} {l : List Ag} (h : Aggs w A l) (hb : Below w.heap.size w w') : Aggs w' A l :=
  ⟨h.1, fun hp => by
    obtain ⟨b, off, e, hc⟩ := h.2 hp
    exact ⟨b, off, e, fun j hj => (hc j hj).below hb⟩⟩
theorem agg_mem {l : List Ag} {j : Nat} (h : j < l.length) : agAt l j ∈ l := by
  have e : agAt l j = l[j] := by simp [agAt, h]
  rw [e]; exact List.getElem_mem h
theorem decide_align_false {l : List Ag} {q : Int} {k : Nat} (hk : k < l.length) (h : ¬ alAt l q k) : decide (Align l q) = false := decide_eq_false fun hr => h (hr.2 k hk)
theorem al_upto_succ {l : List Ag} {q : Int} {k : Nat} (h : ∀ i, i < k → alAt l q i) (hk : alAt l q k) : ∀ i, i < k + 1 → alAt l q i := fun i hi => by
  rcases Nat.lt_or_ge i k with hlt | hge
  · exact h i hlt
  · obtain rfl : i = k := by omega
    exact hk

end Go.Proofs.Ytinplchaimejbaa
