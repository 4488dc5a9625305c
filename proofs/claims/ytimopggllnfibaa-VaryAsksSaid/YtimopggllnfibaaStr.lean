/-
  Bytes as a string: what the conversion of a row of bytes gives.
-/
import Derived.Test.YtimopggllnfibaaMore
import Derived.Laws.BytesArg
namespace Go.Proofs.Ytimopggllnfibaa
open Go.RowKit

theorem addr0 (g k : Nat) : (⟨g, 0, none⟩ : Addr).add k = ⟨g, k, none⟩ := by
  unfold Addr.add
  split
  · next e => rw [e]
  · simp
/-- Bytes as a string. -/
def strB (bs : List Nat) : ByteArray := strOfNums (bs.map fun c : Nat => (c : Int))

theorem conv_bytes {w : World} {A : Option Addr} {bs : List Nat} (h : Bytes w A bs) (n cap : Nat) (hn : bs.length = n) :
    (convert 23 9 (.slice A n cap)).run Try.prog w = .ok (.string (strB bs)) w := by
  by_cases hp : 0 < bs.length
  · obtain ⟨b, off, rfl, hc⟩ := h.at_ hp
    refine run_convert_bytes_arg w 23 5 Try.underlying23 Try.underlying5 b off n cap _ (by simpa using hn) ?_ 9 Try.underlying9
    intro i hi
    rw [hc i (by omega)]
    congr 2
    have : i < bs.length := by omega
    simp [this]
  · have e : bs = [] := List.eq_nil_of_length_eq_zero (by omega)
    subst e
    simp at hn
    subst hn
    rcases A with _ | ⟨b, off, spot⟩
    · exact run_convert_bytes_nil w 23 5 Try.underlying23 Try.underlying5 0 cap 9 Try.underlying9
    · rw [run_convert_bytes_string w 23 9 5 _ 0 cap Try.underlying23 Try.underlying5 Try.underlying9]
      rw [run_bytesToString w _ 0 cap [] (by simp [loadCells, loadCellsFrom])]
      rfl
theorem strB_size (bs : List Nat) : (strB bs).size = bs.length := by unfold strB; rw [strOfNums_size]; simp
end Go.Proofs.Ytimopggllnfibaa
