/-
  The document's own answer for Raw at every row of at most a thousand samples, at every tier.
-/
import Derived.Test.YtfojciolhokejaaDoorRRaw
namespace Go.Proofs.YtfojciolhokejaaDoor
open Go.RowKit
set_option linter.unusedVariables false

set_option maxRecDepth 100000 in
theorem rraw_none (A : Option Addr) (cap : Nat) (k : Int) (w : World) (hk : coarse k) : Calls Tryd.prog 20 #[.slice A 0 cap, .int .i64 k] w fun e w' => e = .returned (.tuple #[.slice none 0 0, .int .i64 0]) ∧ Below w.heap.size w w' := by
  have M1 := Lib.hid (fun w => rrising_none A cap w)
  unfold coarse at hk
  obtain ⟨k1, k3⟩ := hk
  have k1' : ¬ k < 1 := by omega
  have k3' : ¬ 3 < k := by omega
  go_enter Tryd.func20, Tryd.ntmps20
  go_wp2_with fail
  refine (M1.out _).mono ?_
  rintro e w2 ⟨rfl, hb2⟩
  have HB2 := Lib.hid hb2
  clear hb2
  go_wp2
  refine wp_loop_rounds 1 ?_
  rw [rounds_succ]
  go_wp2
  (try rw [Exit.noGoto_ret])
  go_ret2
  exact ⟨rfl, HB2.out⟩

set_option maxRecDepth 100000 in
theorem rraw_tier (A : Option Addr) (len cap : Nat) (k : Int) (w : World) (hk : ¬ coarse k) : Calls Tryd.prog 20 #[.slice A len cap, .int .i64 k] w fun e w' => e = .returned (.tuple #[.slice none 0 0, .int .i64 1]) ∧ Below w.heap.size w w' := by
  unfold coarse at hk
  by_cases h1 : k < 1
  · go_enter Tryd.func20, Tryd.ntmps20
    go_wp2
    (try rw [Exit.noGoto_ret])
    go_ret2
    exact ⟨rfl, Below.refl _ _⟩
  · have h3 : 3 < k := by omega
    go_enter Tryd.func20, Tryd.ntmps20
    go_wp2
    (try rw [Exit.noGoto_ret])
    go_ret2
    exact ⟨rfl, Below.refl _ _⟩

set_option maxRecDepth 100000 in
theorem rraw_fall {A : Option Addr} {len cap : Nat} {l : List (Int × Int)} {w : World} (k : Int) (hl : l.length = len) (hS : Samps w A l) (hc : len ≤ cap) (hm : cap ≤ maxLen) (hk : coarse k) (hr : ¬ Rise l) : Calls Tryd.prog 20 #[.slice A len cap, .int .i64 k] w fun e w' => e = .returned (.tuple #[.slice none 0 0, .int .i64 1]) ∧ Below w.heap.size w w' := by
  have m1 := rrising_any hl hS hc hm
  rw [decide_eq_false hr] at m1
  have M1 := Lib.hid m1
  unfold coarse at hk
  obtain ⟨k1, k3⟩ := hk
  have k1' : ¬ k < 1 := by omega
  have k3' : ¬ 3 < k := by omega
  clear m1 hr hl hS hc hm
  go_enter Tryd.func20, Tryd.ntmps20
  go_wp2_with fail
  refine M1.out.mono ?_
  rintro e w2 ⟨rfl, hb2⟩
  go_wp2
  (try rw [Exit.noGoto_ret])
  go_ret2
  exact ⟨rfl, hb2⟩

theorem rraw_any {A : Option Addr} {len cap : Nat} {l : List (Int × Int)} {w : World} (k : Int) (hl : l.length = len) (hS : Samps w A l) (hc : len ≤ cap) (hm : cap ≤ maxLen) (hn : len ≤ 1000) :
    Calls Tryd.prog 20 #[.slice A len cap, .int .i64 k] w (Gives w (raw l k)) := by
  unfold raw
  by_cases hco : coarse k
  · by_cases hr : Rise l
    · rw [if_pos ⟨hco, hr⟩]
      by_cases h0 : 0 < len
      · obtain ⟨b, off, rfl, hcell⟩ := hS.2 (by omega)
        exact rraw_in b off len cap l k w hl h0 hS hc hm hco hr hn
      · obtain rfl : len = 0 := by omega
        obtain rfl : l = [] := List.length_eq_zero_iff.1 hl
        rw [rawOn]
        exact (rraw_none A cap k w hco).mono fun _ _ h => gives_none h
    · rw [if_neg (fun h => hr h.2)]
      exact (rraw_fall k hl hS hc hm hco hr).mono fun _ _ h => gives_none h
  · rw [if_neg (fun h => hco h.1)]
    exact (rraw_tier A len cap k w hco).mono fun _ _ h => gives_none h
end Go.Proofs.YtfojciolhokejaaDoor
