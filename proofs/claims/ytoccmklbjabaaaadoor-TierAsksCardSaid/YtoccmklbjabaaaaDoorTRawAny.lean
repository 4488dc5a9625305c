/-
  Raw at every row of at most a thousand samples, at every tier.
-/
import Derived.Test.YtoccmklbjabaaaaDoorTRaw
namespace Go.Proofs.YtoccmklbjabaaaaDoor
open Go.RowKit
set_option linter.unusedVariables false

theorem rowOf_nil (w : World) : RowOf w none 0 0 [] := ⟨rfl, ⟨by simp, fun h => absurd h (by simp)⟩, Nat.le_refl _, by unfold maxLen; omega, fun _ => rfl⟩

set_option maxRecDepth 100000 in
theorem raw_none (A : Option Addr) (cap : Nat) (k : Int) (w : World) (hk : coarse k) : Calls Tryd.prog 11 #[.slice A 0 cap, .int .i64 k] w fun e w' => e = .returned (.tuple #[.slice none 0 0, .int .i64 0]) ∧ Below w.heap.size w w' := by
  have hk64 : In64 k := by unfold coarse at hk; unfold In64; omega
  have m0 := fun w => coarse_any k w hk64
  rw [decide_eq_true hk] at m0
  have M0 := Lib.hid m0
  have M1 := Lib.hid (fun w => rising_none A cap w)
  clear m0 hk hk64
  go_enter Tryd.func11, Tryd.ntmps11
  go_wp2
  go_step3
  go_wp2_with fail
  refine (M0.out _).mono ?_
  rintro e w2 ⟨rfl, rfl⟩
  go_wp2_with fail
  refine (M1.out _).mono ?_
  rintro e w2 ⟨rfl, hb2⟩
  have HB2 := Lib.hid hb2
  clear hb2
  go_wp2
  go_step3
  go_wp2
  refine wp_loop_rounds 1 ?_
  rw [rounds_succ]
  go_wp2
  (try rw [Exit.noGoto_ret])
  go_ret2
  exact ⟨rfl, HB2.out⟩

set_option maxRecDepth 100000 in
theorem raw_tier (A : Option Addr) (len cap : Nat) (k : Int) (w : World) (hk64 : In64 k) (hk : ¬ coarse k) : Calls Tryd.prog 11 #[.slice A len cap, .int .i64 k] w fun e w' => e = .returned (.tuple #[.slice none 0 0, .int .i64 1]) ∧ Below w.heap.size w w' := by
  have m0 := fun w => coarse_any k w hk64
  rw [decide_eq_false hk] at m0
  have M0 := Lib.hid m0
  clear m0 hk hk64
  go_enter Tryd.func11, Tryd.ntmps11
  go_wp2
  go_step3
  go_wp2_with fail
  refine (M0.out _).mono ?_
  rintro e w2 ⟨rfl, rfl⟩
  go_wp2
  (try rw [Exit.noGoto_ret])
  go_ret2
  exact ⟨rfl, Below.refl _ _⟩

set_option maxRecDepth 100000 in
theorem raw_fall {A : Option Addr} {len cap : Nat} {l : List (Int × Int)} {w : World} (k : Int) (hl : l.length = len) (hS : Samps w A l) (hc : len ≤ cap) (hm : cap ≤ maxLen) (hk : coarse k) (hr : ¬ Rise l) : Calls Tryd.prog 11 #[.slice A len cap, .int .i64 k] w fun e w' => e = .returned (.tuple #[.slice none 0 0, .int .i64 1]) ∧ Below w.heap.size w w' := by
  have hk64 : In64 k := by unfold coarse at hk; unfold In64; omega
  have m0 := fun w => coarse_any k w hk64
  rw [decide_eq_true hk] at m0
  have M0 := Lib.hid m0
  have m1 := rising_any hl hS hc hm
  rw [decide_eq_false hr] at m1
  have M1 := Lib.hid m1
  clear m0 m1 hk hk64 hr hl hS hc hm
  go_enter Tryd.func11, Tryd.ntmps11
  go_wp2
  go_step3
  go_wp2_with fail
  refine (M0.out _).mono ?_
  rintro e w2 ⟨rfl, rfl⟩
  go_wp2_with fail
  refine M1.out.mono ?_
  rintro e w2 ⟨rfl, hb2⟩
  go_wp2
  (try rw [Exit.noGoto_ret])
  go_ret2
  exact ⟨rfl, hb2⟩

/-- What a call of Raw or Down leaves: the row, its windows, its code. -/
def Gives (w : World) (R : List Ag × Int) : Ending → World → Prop := fun e w' => ∃ A cap, e = .returned (.tuple #[.slice A R.1.length cap, .int .i64 R.2]) ∧ Below w.heap.size w w' ∧ RowOf w' A R.1.length cap R.1
theorem gives_none {w : World} {c : Int} {e : Ending} {w' : World} (h : e = .returned (.tuple #[.slice none 0 0, .int .i64 c]) ∧ Below w.heap.size w w') : Gives w ([], c) e w' :=
  ⟨none, 0, h.1, h.2, rowOf_nil w'⟩

theorem raw_any {A : Option Addr} {len cap : Nat} {l : List (Int × Int)} {w : World} (k : Int) (hl : l.length = len) (hS : Samps w A l) (hc : len ≤ cap) (hm : cap ≤ maxLen) (hk : In64 k) (hw : Wid w) (hn : len ≤ 1000) :
    Calls Tryd.prog 11 #[.slice A len cap, .int .i64 k] w (Gives w (raw l k)) := by
  unfold raw
  by_cases hco : coarse k
  · by_cases hr : Rise l
    · rw [if_pos ⟨hco, hr⟩]
      by_cases h0 : 0 < len
      · obtain ⟨b, off, rfl, hcell⟩ := hS.2 (by omega)
        exact raw_in b off len cap l k w hl hS hc hm hco hr hw hn
      · obtain rfl : len = 0 := by omega
        obtain rfl : l = [] := List.length_eq_zero_iff.1 hl
        rw [rawOn]
        exact (raw_none A cap k w hco).mono fun _ _ h => gives_none h
    · rw [if_neg (fun h => hr h.2)]
      exact (raw_fall k hl hS hc hm hco hr).mono fun _ _ h => gives_none h
  · rw [if_neg (fun h => hco h.1)]
    exact (raw_tier A len cap k w hk hco).mono fun _ _ h => gives_none h
end Go.Proofs.YtoccmklbjabaaaaDoor
