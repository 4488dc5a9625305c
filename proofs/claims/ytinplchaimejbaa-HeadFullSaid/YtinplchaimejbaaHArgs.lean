/-
  What the laws are told of their arguments; remainders.
-/
import Derived.Test.YtinplchaimejbaaHTold
namespace Go.Proofs.Ytinplchaimejbaa
open Go.RowKit
set_option linter.unusedVariables false

/-- A slice of integers that came in: nil, or a row of 'cap' cells, the first 'len' of them its elements. -/
def IsRow (k : IntKind) (w : World) (a : Option Addr) (len cap : Nat) (zs : List Int) : Prop :=
  (a = none ∧ len = 0 ∧ cap = 0 ∧ zs = []) ∨
  ∃ x, a = some x ∧ len ≤ cap ∧ cap ≤ maxLen ∧ zs.length = cap ∧ (∀ i, i < zs.length → w.cell? (x.add i) = some (.int k (zs.getD i 0))) ∧ ∀ n ∈ zs, (Lit.int k n).wf = true

theorem wrap_u64_rem {a : Int} (m : Int) (hm : 0 < m) : ∃ x : Int, (IntKind.u64.wrap a).tmod m = x ∧ 0 ≤ x ∧ x < m := by
  have h0 : 0 ≤ IntKind.u64.wrap a := by rw [IntKind.wrap_u64]; omega
  exact ⟨_, rfl, Int.tmod_nonneg m h0, Int.tmod_lt_of_pos _ hm⟩
theorem pol_may {c s : Int} (h1 : 1 ≤ c) (h2 : c ≤ 64) (h3 : 1 ≤ s) (h4 : s ≤ 200) : Pol.may ⟨60, 600, 6000, 0, c, s⟩ :=
  ⟨(show Pol.ages ⟨60, 600, 6000, 0, 8, 30⟩ by decide), ⟨h1, h2⟩, h3, h4⟩
end Go.Proofs.Ytinplchaimejbaa
