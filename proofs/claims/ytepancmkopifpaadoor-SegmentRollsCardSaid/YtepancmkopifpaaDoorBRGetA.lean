/-
  The document's own reader of windows: what it returns, where it stands behind it.
  The document's own answer for windows' bytes: what it returns of every string; nothing that was there is written.
-/
import Derived.Test.YtepancmkopifpaaDoorBAInv
import Derived.Deep.RegionHeld3
namespace Go.Proofs.YtepancmkopifpaaDoor
open Go.RowKit
attribute [local go_sem ↓] Go.wp_at_zero Go.wp_at_succ
set_option linter.unusedVariables false

theorem and62 (c : Nat) (h : c < 18446744073709551616) : bits .and .u64 (c : Int) 4611686018427387903 = ((c % 4611686018427387904 : Nat) : Int) := by
  have := bits_mask .u64 64 (by decide) wraps_u64 62 (by decide) (c : Int) (by omega) (by omega)
  rw [show ((4611686018427387903 : Int)) = 2 ^ 62 - 1 from rfl, this]
  omega

theorem AMid.drewN {w wr : World} {g : Nat} {s : ByteArray} {p : Nat} {bad : Bool} {V : Value} {out : List Ag} {A : Nat} {x : Ag} (h : AMid w wr g s p bad V out A x) (n : Nat) : AMid w (wr.drewN n) g s p bad V out A x :=
  h.num (h.pos.below (belowN wr n)) ⟨rfl, rfl, rfl, Nat.le_refl _, fun _ _ _ => rfl⟩
theorem amid_new {w wr : World} {g : Nat} {s : ByteArray} {p : Nat} {bad : Bool} {V : Value} {out : List Ag} (hc : CAt wr g s p bad) (ho : wr.ownsRow w.heap.size 45 7 V out.length (aggV out)) (hg : w.grownBy wr (some g)) (hl : g < w.heap.size) (x : Ag) :
    AMid w (wr.alloc (.cells #[.int .i64 x.fr, .int .i64 x.cn, .int .i64 x.sm, .int .i64 x.mn, .int .i64 x.mx, .int .i64 x.fi, .int .i64 x.la] 45)) g s p bad V out wr.heap.size x := by
  refine ⟨hc.grown (World.grownBy_alloc wr _ none) (by simp), own7_below ho (past_alloc (Below.refl _ _) _), grown_then hg (World.grownBy_alloc wr _ none) (fun j e => by simp at e), hl, hg.size, by simp, fun k e => ?_, ?_, ?_⟩
  · have := (ho.lt k e).2
    omega
  · unfold Holds
    simp
  · unfold Free
    simp

end Go.Proofs.YtepancmkopifpaaDoor
namespace Go.Proofs.YtepancmkopifpaaDoor
open Go.RowKit
attribute [local go_sem ↓] Go.wp_at_zero Go.wp_at_succ
set_option linter.unusedVariables false

theorem own7_less {w : World} {base base' n : Nat} {V : Value} {xs : List Value} (h : w.ownsRow base 45 7 V n xs) (hb : base' ≤ base) : w.ownsRow base' 45 7 V n xs := by
  refine ⟨h.1, ?_⟩
  rcases h.2 with h | ⟨g, cap, cur, e, hg, r⟩
  · exact Or.inl h
  · exact Or.inr ⟨g, cap, cur, e, Nat.le_trans hb hg, r⟩
/-- What GetAggs returns, of a tier that there is. -/
def GetAPost (w : World) (r : Option (List Ag)) (e : Ending) (w' : World) : Prop :=
  (match r with
    | none => e = .returned (.tuple #[.slice none 0 0, .int .i64 2])
    | some l => ∃ V, e = .returned (.tuple #[V, .int .i64 0]) ∧ w'.ownsRow w.heap.size 45 7 V l.length (aggV l) ∧ ∀ a ∈ l, a.ok) ∧ Below w.heap.size w w'

end Go.Proofs.YtepancmkopifpaaDoor
