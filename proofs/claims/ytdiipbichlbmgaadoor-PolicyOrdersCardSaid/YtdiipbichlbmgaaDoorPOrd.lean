/-
  Plain: four lines in any order say the same; one of them again is told.
-/
import Derived.Test.YtdiipbichlbmgaaDoorPMath
namespace Go.Proofs.YtdiipbichlbmgaaDoor.policyOrders

def lineAt : Nat → List UInt8
  | 0 => [107, 101, 101, 112, 32, 114, 97, 119, 32, 49, 48]
  | 1 => [107, 101, 101, 112, 32, 53, 109, 32, 50, 48]
  | 2 => [115, 101, 97, 108, 32, 53]
  | _ => [115, 112, 97, 110, 32, 57]
def text (d : List Nat) : List UInt8 := (d.map fun j => lineAt j ++ [10]).flatten
theorem text_nil : text [] = [] := rfl
theorem text_snoc (d : List Nat) (j : Nat) : text (d ++ [j]) = text d ++ lineAt j ++ [10] := by simp [text]
theorem lineAt_len (j : Nat) : (lineAt j).length ≤ 11 := by unfold lineAt; split <;> decide
theorem text_len : ∀ d : List Nat, (text d).length ≤ 12 * d.length
  | [] => by simp [text]
  | j :: d => by
    have := lineAt_len j
    have := text_len d
    simp only [text, List.map_cons, List.flatten_cons, List.length_append, List.length_cons, List.length_nil] at *
    omega
/-- The order that the number k says. -/
def order : Nat → Nat → List Nat → List Nat
  | 0, _, _ => []
  | f + 1, k, r => if r = [] then [] else r.getD (k % r.length) 0 :: order f (k / r.length) (r.eraseIdx (k % r.length))
def again (o : List Nat) (t : Nat) : List UInt8 := text o ++ [32] ++ lineAt t ++ [32, 35, 32, 97, 103, 97, 105, 110]
def Good (o : List Nat) : Prop := parse (text o) = (⟨10, 20, 6000, 0, 5, 9⟩, 0, 0) ∧ (∀ t, t < 4 → parse (again o t) = (Pol.zero, 4, 5)) ∧ o.length = 4
instance (o : List Nat) : Decidable (Good o) := by unfold Good; infer_instance
def ord (i0 i1 i2 : Nat) : List Nat :=
  let r0 := [0, 1, 2, 3]
  let r1 := r0.eraseIdx i0
  let r2 := r1.eraseIdx i1
  let r3 := r2.eraseIdx i2
  [r0.getD i0 0, r1.getD i1 0, r2.getD i2 0, r3.getD 0 0]
theorem ord_good : ∀ (i0 : Fin 4) (i1 : Fin 3) (i2 : Fin 2), Good (ord i0.val i1.val i2.val) := by decide +kernel
theorem order_is (k : Nat) : order 4 k [0, 1, 2, 3] = ord (k % 4) (k / 4 % 3) (k / 4 / 3 % 2) := by
  have h0 : k % 4 < 4 := Nat.mod_lt _ (by decide)
  have h1 : k / 4 % 3 < 3 := Nat.mod_lt _ (by decide)
  have h2 : k / 4 / 3 % 2 < 2 := Nat.mod_lt _ (by decide)
  have l0 : ([0, 1, 2, 3].eraseIdx (k % 4)).length = 3 := by rw [List.length_eraseIdx_of_lt (by simpa using h0)]; rfl
  have l1 : (([0, 1, 2, 3].eraseIdx (k % 4)).eraseIdx (k / 4 % 3)).length = 2 := by rw [List.length_eraseIdx_of_lt (by rw [l0]; exact h1), l0]
  have l2 : ((([0, 1, 2, 3].eraseIdx (k % 4)).eraseIdx (k / 4 % 3)).eraseIdx (k / 4 / 3 % 2)).length = 1 := by rw [List.length_eraseIdx_of_lt (by rw [l1]; exact h2), l1]
  have n0 : [0, 1, 2, 3].eraseIdx (k % 4) ≠ [] := by intro e; rw [e] at l0; cases l0
  have n1 : ([0, 1, 2, 3].eraseIdx (k % 4)).eraseIdx (k / 4 % 3) ≠ [] := by intro e; rw [e] at l1; cases l1
  have n2 : (([0, 1, 2, 3].eraseIdx (k % 4)).eraseIdx (k / 4 % 3)).eraseIdx (k / 4 / 3 % 2) ≠ [] := by intro e; rw [e] at l2; cases l2
  rw [order, if_neg (by simp), show ([0, 1, 2, 3] : List Nat).length = 4 from rfl, order, if_neg n0, l0, order, if_neg n1, l1, order, if_neg n2, l2, Nat.mod_one, order]
  rfl
theorem order_good (k : Nat) : Good (order 4 k [0, 1, 2, 3]) := by
  rw [order_is]
  exact ord_good ⟨k % 4, Nat.mod_lt _ (by decide)⟩ ⟨k / 4 % 3, Nat.mod_lt _ (by decide)⟩ ⟨k / 4 / 3 % 2, Nat.mod_lt _ (by decide)⟩
end Go.Proofs.YtdiipbichlbmgaaDoor.policyOrders
