/-
  Plain arithmetic of windows: widths, floors, samples that rise, windows that are aligned, what they come to. No program in it.
-/
import Derived.Test.YtinplchaimejbaaSmall
namespace Go.Proofs.Ytinplchaimejbaa

def wid (k : Int) : Int := if k = 0 then 1 else if k = 1 then 5 else if k = 2 then 60 else if k = 3 then 1440 else 0
def flr (t k : Int) : Int := if wid k = 0 ∨ ¬ Ag.begin_ t then -1 else t - t % wid k
def coarse (k : Int) : Prop := 1 ≤ k ∧ k ≤ 3
instance (k : Int) : Decidable (coarse k) := by unfold coarse; infer_instance
theorem wid_none {k : Int} (h : k < 0 ∨ 4 ≤ k) : wid k = 0 := by
  unfold wid
  rw [if_neg (by omega), if_neg (by omega), if_neg (by omega), if_neg (by omega)]
theorem wid_some {k : Int} (h0 : 0 ≤ k) (h : k < 4) : 1 ≤ wid k ∧ wid k ≤ 1440 := by
  unfold wid
  split
  · omega
  split
  · omega
  split
  · omega
  split
  · omega
  · omega
theorem wid_bounds (k : Int) : 0 ≤ wid k ∧ wid k ≤ 1440 := by
  by_cases h : 0 ≤ k ∧ k < 4
  · have := wid_some h.1 h.2
    omega
  · rw [wid_none (by omega)]
    omega
theorem emod_le {t m : Int} (ht : 0 ≤ t) (hm : 0 < m) : t % m ≤ t := by
  have h1 := Int.emod_add_mul_ediv t m
  have h2 := Int.mul_nonneg (Int.le_of_lt hm) (Int.ediv_nonneg ht (Int.le_of_lt hm))
  omega
theorem flr_none {t k : Int} (h : wid k = 0 ∨ ¬ Ag.begin_ t) : flr t k = -1 := if_pos h
theorem flr_some {t k : Int} (hw : wid k ≠ 0) (ht : Ag.begin_ t) : flr t k = t - t % wid k := if_neg (by intro h; rcases h with h | h <;> contradiction)
theorem flr_bounds (t k : Int) : -1 ≤ flr t k ∧ flr t k ≤ 1099511627776 := by
  unfold flr
  split
  · omega
  · next h =>
    have h1 : wid k ≠ 0 := fun e => h (.inl e)
    have h2 : Ag.begin_ t := Classical.byContradiction fun e => h (.inr e)
    have hb := wid_bounds k
    have h3 := Int.emod_nonneg t h1
    unfold Ag.begin_ at h2
    have h5 : t % wid k ≤ t := emod_le h2.1 (by omega)
    omega

def tAt (l : List (Int × Int)) (i : Nat) : Int := (l.getD i (0, 0)).1
def riseAt (l : List (Int × Int)) (i : Nat) : Prop := Ag.begin_ (tAt l i) ∧ (0 < i → tAt l (i - 1) < tAt l i)
instance (l : List (Int × Int)) (i : Nat) : Decidable (riseAt l i) := by unfold riseAt; infer_instance
def Rise (l : List (Int × Int)) : Prop := ∀ i, i < l.length → riseAt l i
instance (l : List (Int × Int)) : Decidable (Rise l) := by unfold Rise; infer_instance

def agAt (l : List Ag) (i : Nat) : Ag := l.getD i Ag.zero
def alAt (l : List Ag) (k : Int) (i : Nat) : Prop := (agAt l i).may ∧ (agAt l i).fr = flr (agAt l i).fr k ∧ (0 < i → (agAt l (i - 1)).fr < (agAt l i).fr)
instance (l : List Ag) (k : Int) (i : Nat) : Decidable (alAt l k i) := by unfold alAt; infer_instance
def Align (l : List Ag) (k : Int) : Prop := coarse k ∧ ∀ i, i < l.length → alAt l k i
instance (l : List Ag) (k : Int) : Decidable (Align l k) := by unfold Align; infer_instance
end Go.Proofs.Ytinplchaimejbaa
