/-
  slices.SortedFunc(maps.Values(m), by Id), infos: what is there, by Ids that rise.
-/
import Derived.Test.YtdpoahjgdndnhaaDoorECollect
import Derived.Test.YtdpoahjgdndnhaaDoorEShelf
set_option maxRecDepth 100000
namespace Go.Proofs.YtdpoahjgdndnhaaDoor
open Go.RowKit Go.Maps Go.Sort Go.Shelf
set_option linter.unusedVariables false

/-- How two segments compare, by Ids. -/
def cmpI (x y : Inf) : Int := if x.id < y.id then -1 else if y.id < x.id then 1 else 0
theorem ltI (x y : Inf) : Go.Proofs.ltOf cmpI x y = decide (x.id < y.id) := by
  unfold Go.Proofs.ltOf cmpI
  by_cases h1 : x.id < y.id
  · simp [h1]
  · by_cases h2 : y.id < x.id <;> simp [h1, h2]
theorem swoI : SWO (Go.Proofs.ltOf cmpI) where
  irrefl x := by rw [ltI]; simp
  trans x y z h1 h2 := by rw [ltI] at *; simp at *; omega
  ntrans x y z h1 h2 := by rw [ltI] at *; simp at *; omega

theorem isNaN_any (x : Int) (w : World) : Calls Tryd.prog 89 #[.int .i64 x] w fun e w' => e = .returned (.bool false) ∧ w' = w := by
  go_enter Tryd.func89, Tryd.ntmps89
  go_wp2
  go_ret
  exact ⟨by simp, rfl⟩
theorem compare_any (x y : Int) (w : World) : Calls Tryd.prog 71 #[.int .i64 x, .int .i64 y] w fun e w' => e = .returned (.int .i64 (if x < y then -1 else if y < x then 1 else 0)) ∧ w' = w := by
  have M := Lib.hid (fun x w => isNaN_any x w)
  by_cases h1 : x < y
  · rw [if_pos h1]
    go_enter Tryd.func71, Tryd.ntmps71
    go_wp2_with ((go_at_call 89; refine (M.out _ _).mono ?_; rintro e w' ⟨rfl, rfl⟩))
    go_ret
    exact ⟨rfl, rfl⟩
  · rw [if_neg h1]
    by_cases h2 : x > y
    · rw [if_pos (by omega)]
      go_enter Tryd.func71, Tryd.ntmps71
      go_wp2_with ((go_at_call 89; refine (M.out _ _).mono ?_; rintro e w' ⟨rfl, rfl⟩))
      go_ret
      exact ⟨rfl, rfl⟩
    · rw [if_neg (by omega)]
      go_enter Tryd.func71, Tryd.ntmps71
      go_wp2_with ((go_at_call 89; refine (M.out _ _).mono ?_; rintro e w' ⟨rfl, rfl⟩))
      go_ret
      exact ⟨rfl, rfl⟩
theorem closure_any (x y : Inf) (W : World) : Calls Tryd.prog 70 #[x.val, y.val] W fun e w' => e = .returned (.int .i64 (cmpI x y)) ∧ ∃ q os', w' = grow (W.drewN q) os' := by
  obtain ⟨a0, a1, a2, a3, a4⟩ := x
  obtain ⟨b0, b1, b2, b3, b4⟩ := y
  have hcon := fun W' => compare_any a0 b0 W'
  unfold cmpI Inf.val
  simp only
  generalize (if a0 < b0 then (-1 : Int) else if b0 < a0 then 1 else 0) = r at hcon ⊢
  go_enter Tryd.func70, Tryd.ntmps70
  go_wp2_with (go_at_call 71; refine (hcon _).mono ?_; rintro e w' ⟨rfl, rfl⟩)
  go_ret
  exact ⟨rfl, 0, _, by rw [alloc_eq_grow, alloc_eq_grow, grow_grow]; rfl⟩
theorem cmpLays46 (blk off size : Nat) (w : World) : Go.Proofs.CmpLays Tryd.prog 70 #[] Inf.enc 5 cmpI blk off size w :=
  fun _ _ _ _ x y => closure_any x y _
end Go.Proofs.YtdpoahjgdndnhaaDoor
