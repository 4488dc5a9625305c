/-
  Plain: which names may be, how names are held against each other, where a file stands among others. No program in it.
-/
import Derived.Test.YtofjealjecfkiaaFBase
namespace Go.Proofs.Ytofjealjecfkiaa

/-- Bytes as a string. -/
def str (l : List UInt8) : Value := .string ⟨l.toArray⟩
/-- May a name have that byte? -/
def lowB (c : UInt8) : Bool := (decide (97 ≤ c.toNat) && decide (c.toNat ≤ 122)) || ((decide (48 ≤ c.toNat) && decide (c.toNat ≤ 57)) || decide (c.toNat = 46))
/-- May a file have that name? -/
def isNm (l : List UInt8) : Bool := decide (1 ≤ l.length) && (decide (l.length ≤ 20) && l.all lowB)
/-- Two names, held against each other. -/
def cmpB (a b : List UInt8) : Int := if Op.bytesLess a b then -1 else if a = b then 0 else 1
/-- The place of the file of that name, or where it would stand; whether it is there. -/
def place : List (List UInt8) → List UInt8 → Nat × Bool
  | [], _ => (0, false)
  | x :: r, s => if cmpB x s = 0 then (0, true) else if cmpB x s = 1 then (0, false) else ((place r s).1 + 1, (place r s).2)

theorem bytesLess_irr : ∀ a : List UInt8, Op.bytesLess a a = false
  | [] => rfl
  | x :: r => by
    have ih := bytesLess_irr r
    have h : ¬ x < x := by
      show ¬ x.toNat < x.toNat
      omega
    simp [Op.bytesLess, ih, h]
theorem cmpB_self (a : List UInt8) : cmpB a a = 0 := by simp [cmpB, bytesLess_irr]
theorem cmpB_zero {a b : List UInt8} : cmpB a b = 0 ↔ a = b := by
  constructor
  · intro h
    unfold cmpB at h
    split at h
    · omega
    · split at h
      · assumption
      · omega
  · rintro rfl
    exact cmpB_self a
theorem cmpB_three (a b : List UInt8) : cmpB a b = -1 ∨ cmpB a b = 0 ∨ cmpB a b = 1 := by
  unfold cmpB
  split
  · simp
  · split <;> simp
theorem place_cons (x : List UInt8) (r : List (List UInt8)) (s : List UInt8) : place (x :: r) s = if cmpB x s = 0 then (0, true) else if cmpB x s = 1 then (0, false) else ((place r s).1 + 1, (place r s).2) := rfl
theorem place_le : ∀ (l : List (List UInt8)) (s : List UInt8), (place l s).1 ≤ l.length
  | [], _ => Nat.le_refl _
  | x :: r, s => by
    unfold place
    have := place_le r s
    split
    · simp
    · split
      · simp
      · simp only [List.length_cons]; omega
theorem place_there : ∀ {l : List (List UInt8)} {s : List UInt8}, (place l s).2 = true → l[(place l s).1]? = some s
  | [], _, h => by simp [place] at h
  | x :: r, s, h => by
    unfold place at h ⊢
    split
    · next e => simp [cmpB_zero.1 e]
    · next e =>
      rw [if_neg e] at h
      split
      · next e1 => rw [if_pos e1] at h; simp at h
      · next e1 =>
        rw [if_neg e1] at h
        simpa using place_there h
end Go.Proofs.Ytofjealjecfkiaa
