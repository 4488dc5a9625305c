/-
  EntryRules, plain: the texts "seal dd" with an end, all of them.
-/
import Derived.Test.YtimjaohhgdkojaaDoorEMath
set_option maxRecDepth 100000
namespace Go.Proofs.YtimjaohhgdkojaaDoor

def endT : Nat → List UInt8
  | 0 => []
  | 1 => [32, 120]
  | 2 => [10, 115, 112, 97, 110, 32, 57]
  | _ => [10, 115, 101, 97, 108, 32, 51]
def ruleT (n j : Nat) : List UInt8 := [115, 101, 97, 108, 32] ++ [UInt8.ofNat (48 + n / 10)] ++ [UInt8.ofNat (48 + n % 10)] ++ endT j
def ruleE (n j : Nat) : Ent := ⟨4, 0, 0, 0, 0, 0, 0, ruleT n j⟩
def ruleOk (n j : Nat) : Bool := decide (1 ≤ n ∧ n ≤ 64 ∧ j % 2 = 0)
theorem rule_may : ∀ n : Fin 70, ∀ j : Fin 4, decide (ruleE n.val j.val).may = ruleOk n.val j.val := by decide +kernel
theorem rule_fold : ∀ n : Fin 70, ∀ j : Fin 4, decide ((fold [ruleE n.val j.val]).2.2.2 = 0) = ruleOk n.val j.val := by decide +kernel
theorem rule_count : ∀ n : Fin 70, ∀ j : Fin 4, ruleOk n.val j.val = true → (fold [ruleE n.val j.val]).2.1.cn = (n.val : Int) := by decide +kernel
theorem rule_short (n j : Nat) : (ruleT n j).length ≤ 20 := by unfold ruleT endT; split <;> simp
end Go.Proofs.YtimjaohhgdkojaaDoor
