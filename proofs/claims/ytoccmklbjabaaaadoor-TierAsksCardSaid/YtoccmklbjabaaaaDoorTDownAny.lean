/-
  Down at every row of at most a thousand windows, at every tier.
-/
import Derived.Test.YtoccmklbjabaaaaDoorTDown
namespace Go.Proofs.YtoccmklbjabaaaaDoor
open Go.RowKit
set_option linter.unusedVariables false

set_option maxRecDepth 100000 in
theorem down_none {A : Option Addr} {cap : Nat} {w : World} (k : Int) (hk : coarse k) (hr : coarse (k - 1)) : Calls Tryd.prog 12 #[.slice A 0 cap, .int .i64 k] w fun e w' => e = .returned (.tuple #[.slice none 0 0, .int .i64 0]) ∧ Below w.heap.size w w' := by
  have hk64 : In64 k ∧ In64 (k - 1) := by unfold coarse at hk; unfold In64; omega
  have hsub : IntKind.i64.wrap (k - 1) = k - 1 := by unfold coarse at hk; rw [IntKind.wrap_i64]; omega
  have m0 := fun w => coarse_any k w hk64.1
  rw [decide_eq_true hk] at m0
  have M0 := Lib.hid m0
  have m1 := aligned_none A cap (k - 1) w hr
  obtain ⟨k1, hk1⟩ : ∃ k1, k - 1 = k1 := ⟨_, rfl⟩
  replace hsub : IntKind.i64.wrap (k - 1) = k1 := hsub.trans hk1
  rw [hk1] at m1
  have M1 := Lib.hid m1
  clear m0 m1 hk hr hk64 hk1
  go_enter Tryd.func12, Tryd.ntmps12
  go_wp2
  go_step3
  go_wp2_with fail
  refine (M0.out _).mono ?_
  rintro e w2 ⟨rfl, rfl⟩
  go_wp2_with fail
  refine M1.out.mono ?_
  rintro e w2 ⟨rfl, hb2⟩
  have HB2 := Lib.hid hb2
  clear hb2 hsub
  go_wp2
  go_step3
  go_wp2
  refine wp_loop_rounds 1 ?_
  rw [rounds_succ]
  go_wp2
  (try rw [Exit.noGoto_ret])
  go_ret2
  exact ⟨rfl, HB2.out⟩

set_option maxRecDepth 100000 in
theorem down_tier (A : Option Addr) (len cap : Nat) (k : Int) (w : World) (hk64 : In64 k) (hk : ¬ coarse k) : Calls Tryd.prog 12 #[.slice A len cap, .int .i64 k] w fun e w' => e = .returned (.tuple #[.slice none 0 0, .int .i64 1]) ∧ Below w.heap.size w w' := by
  have m0 := fun w => coarse_any k w hk64
  rw [decide_eq_false hk] at m0
  have M0 := Lib.hid m0
  clear m0 hk hk64
  go_enter Tryd.func12, Tryd.ntmps12
  go_wp2
  go_step3
  go_wp2_with fail
  refine (M0.out _).mono ?_
  rintro e w2 ⟨rfl, rfl⟩
  go_wp2
  (try rw [Exit.noGoto_ret])
  go_ret2
  exact ⟨rfl, Below.refl _ _⟩

set_option maxRecDepth 100000 in
theorem down_fall {A : Option Addr} {len cap : Nat} {l : List Ag} {w : World} (k : Int) (hl : l.length = len) (hS : Aggs w A l) (hc : len ≤ cap) (hm : cap ≤ maxLen) (hk : coarse k) (hr : ¬ Align l (k - 1)) (hw : Wid w) : Calls Tryd.prog 12 #[.slice A len cap, .int .i64 k] w fun e w' => e = .returned (.tuple #[.slice none 0 0, .int .i64 1]) ∧ Below w.heap.size w w' := by
  have hk64 : In64 k ∧ In64 (k - 1) := by unfold coarse at hk; unfold In64; omega
  have hsub : IntKind.i64.wrap (k - 1) = k - 1 := by unfold coarse at hk; rw [IntKind.wrap_i64]; omega
  have m0 := fun w => coarse_any k w hk64.1
  rw [decide_eq_true hk] at m0
  have M0 := Lib.hid m0
  have m1 := aligned_any (k - 1) hl hS hc hm hk64.2 hw
  rw [decide_eq_false hr] at m1
  obtain ⟨k1, hk1⟩ : ∃ k1, k - 1 = k1 := ⟨_, rfl⟩
  replace hsub : IntKind.i64.wrap (k - 1) = k1 := hsub.trans hk1
  rw [hk1] at m1
  have M1 := Lib.hid m1
  clear m0 m1 hk hr hk64 hl hS hc hm hk1
  go_enter Tryd.func12, Tryd.ntmps12
  go_wp2
  go_step3
  go_wp2_with fail
  refine (M0.out _).mono ?_
  rintro e w2 ⟨rfl, rfl⟩
  go_wp2_with fail
  refine M1.out.mono ?_
  rintro e w2 ⟨rfl, hb2⟩
  go_wp2
  (try rw [Exit.noGoto_ret])
  go_ret2
  exact ⟨rfl, hb2⟩

theorem down_any {A : Option Addr} {len cap : Nat} {l : List Ag} {w : World} (k : Int) (h : RowOf w A len cap l) (hk : In64 k) (hw : Wid w) (hn : len ≤ 1000) :
    Calls Tryd.prog 12 #[.slice A len cap, .int .i64 k] w (Gives w (down l k)) := by
  obtain ⟨hl, hS, hc, hm, _⟩ := h
  unfold down
  by_cases hco : coarse k
  · by_cases hr : Align l (k - 1)
    · rw [if_pos ⟨hco, hr⟩]
      by_cases h0 : 0 < len
      · obtain ⟨b, off, rfl, hcell⟩ := hS.2 (by omega)
        exact down_in b off len cap l k w hl h0 hS hc hm hco hr hw hn
      · obtain rfl : len = 0 := by omega
        obtain rfl : l = [] := List.length_eq_zero_iff.1 hl
        rw [downOn]
        exact (down_none k hco hr.1).mono fun _ _ h => gives_none h
    · rw [if_neg (fun h => hr h.2)]
      exact (down_fall k hl hS hc hm hco hr hw).mono fun _ _ h => gives_none h
  · rw [if_neg (fun h => hco h.1)]
    exact (down_tier A len cap k w hk hco).mono fun _ _ h => gives_none h
end Go.Proofs.YtoccmklbjabaaaaDoor
