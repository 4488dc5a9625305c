/-
  The document's own answer for Rising: what it returns of every row of samples; nothing that was there is written.
-/
import Derived.Test.YtinplchaimejbaaTRise
import Derived.Test.YtinplchaimejbaaRLeaf
namespace Go.Proofs.Ytinplchaimejbaa
open Go.RowKit
attribute [local go_sem ↓] Go.wp_at_zero Go.wp_at_succ
set_option linter.unusedVariables false

set_option maxRecDepth 100000 in
set_option maxHeartbeats 1000000 in
theorem rrising_in (b off n cap : Nat) (l : List (Int × Int)) (w : World) (hl : l.length = n) (h0 : 0 < n) (hb : In2 l) (hc : n ≤ cap) (hm : cap ≤ maxLen)
    (hcell : ∀ j, j < n → w.cell? ⟨b, off + j * 2, none⟩ = some (.int .i64 (l.getD j (0, 0)).1) ∧ w.cell? ⟨b, off + j * 2 + 1, none⟩ = some (.int .i64 (l.getD j (0, 0)).2)) :
    Calls Try.prog 29 #[.slice (some ⟨b, off, none⟩) n cap] w fun e w' => e = .returned (.bool (decide (Rise l))) ∧ Below w.heap.size w w' := by
  unfold maxLen at hm
  obtain ⟨B, hB⟩ : ∃ B, B = decide (Rise l) := ⟨_, rfl⟩
  rw [← hB]
  have HB := Lib.hid hB
  have HL := Lib.hid hl
  have HI := Lib.hid hb
  have HCELL := Lib.hid hcell
  have h0i : (0 : Int) < (n : Int) := by omega
  clear hB hl hb hcell
  go_enter Try.func29, Try.ntmps29
  go_wp2
  go_loopw [3] (fun si wr => ∃ (k : Nat), k ≤ n ∧ si = .int .i64 (k : Int) ∧ Hid (∀ i, i < k → riseAt l i) ∧ Hid (Below w.heap.size w wr)) (fun si _ => n - (intOf si).toNat)
  case atStart => exact ⟨0, by omega, rfl, Lib.hid (fun i hi => absurd hi (by omega)), Lib.hid (Below.refl _ _)⟩
  case round =>
    obtain ⟨k, hk, rfl, HR, HW⟩ := hrel
    by_cases hlt : k < n
    · obtain ⟨c0, _⟩ := HCELL.out k hlt
      rw [← HW.out.cell (World.block_lt_of_cell? w _ c0)] at c0
      have hbk := (HI.out (l.getD k (0, 0)) (sample_mem (by rw [HL.out]; omega))).1
      have hat : riseAt l k ↔ Ag.begin_ (l.getD k (0, 0)).1 ∧ (0 < k → (l.getD (k - 1) (0, 0)).1 < (l.getD k (0, 0)).1) := Iff.rfl
      generalize (l.getD k (0, 0)).1 = t1 at c0 hbk hat
      have hcap : (k : Int) < (n : Int) := by omega
      have hcap0 : (0 : Int) ≤ (k : Int) := by omega
      unfold In64 at hbk
      by_cases ht0 : t1 < 0
      · have HN : Hid (B = false) := Lib.hid (by rw [HB.out]; exact decide_rise_false (by rw [HL.out]; exact hlt) (fun h => by have := (hat.1 h).1.1; omega))
        clear hat
        go_upto_region 4 with fail
        go_quiet (fail)
        clear c0
        go_wp2
        (try rw [Exit.noGoto_ret])
        go_ret
        exact ⟨by rw [HN.out]; rfl, past HW.out (belowN _ _)⟩
      have t0' : decide (t1 < 0) = false := decide_eq_false ht0
      by_cases htm : 1099511627776 < t1
      · have HN : Hid (B = false) := Lib.hid (by rw [HB.out]; exact decide_rise_false (by rw [HL.out]; exact hlt) (fun h => by have := (hat.1 h).1.2; omega))
        clear hat ht0
        go_upto_region 4 with fail
        go_quiet (fail)
        clear c0
        go_wp2
        (try rw [Exit.noGoto_ret])
        go_ret
        exact ⟨by rw [HN.out]; rfl, past HW.out (belowN _ _)⟩
      have tm' : decide (1099511627776 < t1) = false := decide_eq_false htm
      have hbe : Ag.begin_ t1 := ⟨by omega, by omega⟩
      by_cases hk0 : 0 < k
      · obtain ⟨c2, _⟩ := HCELL.out (k - 1) (by omega)
        rw [← HW.out.cell (World.block_lt_of_cell? w _ c2)] at c2
        generalize hs0 : (l.getD (k - 1) (0, 0)).1 = t0 at c2 hat
        have i1 : (0 : Int) < (k : Int) := by omega
        have i2 : (1 : Int) ≤ (k : Int) := by omega
        have i3 : (0 : Int) ≤ (k : Int) - 1 := by omega
        have i4 : (k : Int) - 1 < (n : Int) := by omega
        have i5 : ((k : Int) - 1).toNat = k - 1 := by omega
        have i6 : IntKind.i64.wrap ((k : Int) - 1) = (k : Int) - 1 := by rw [IntKind.wrap_i64]; omega
        by_cases hle : t1 ≤ t0
        · have HN : Hid (B = false) := Lib.hid (by rw [HB.out]; exact decide_rise_false (by rw [HL.out]; exact hlt) (fun h => absurd ((hat.1 h).2 hk0) (by omega)))
          clear hat hbe hs0 ht0 htm
          go_upto_region 4 with fail
          go_quiet (fail)
          clear c2
          clear c0
          go_wp2
          (try rw [Exit.noGoto_ret])
          go_ret
          exact ⟨by rw [HN.out]; rfl, past HW.out (belowN _ _)⟩
        · have HN : Hid (∀ i, i < k + 1 → riseAt l i) := Lib.hid (rise_upto_succ HR.out (hat.2 ⟨hbe, fun _ => by omega⟩))
          have hle' : decide (t1 ≤ t0) = false := decide_eq_false hle
          clear hat hbe hs0 hle ht0 htm
          go_upto_region 4 with fail
          go_quiet (fail)
          clear c2
          clear c0
          go_wp2
          go_roundw
          case rel => exact ⟨k + 1, by omega, by go_num, HN, Lib.hid (past HW.out (belowN _ _))⟩
          case measure => simp [intOf]; omega
      · have HN : Hid (∀ i, i < k + 1 → riseAt l i) := Lib.hid (rise_upto_succ HR.out (hat.2 ⟨hbe, fun h => absurd h hk0⟩))
        obtain rfl : k = 0 := by omega
        clear hat hbe hk0 ht0 htm
        simp only [Int.ofNat_zero, Nat.zero_mul, Nat.add_zero] at *
        go_upto_region 4 with fail
        go_quiet (fail)
        clear c0
        go_wp2
        go_roundw
        case rel => exact ⟨0 + 1, by omega, by go_num, HN, Lib.hid (past HW.out (belowN _ _))⟩
        case measure => simp [intOf]; omega
    · have HN : Hid (B = true) := Lib.hid (by rw [HB.out]; exact decide_eq_true (fun i hi => HR.out i (by rw [HL.out] at hi; omega)))
      go_wp2
      (try rw [Exit.noGoto_ret])
      go_ret
      exact ⟨by rw [HN.out]; rfl, HW.out⟩

set_option maxRecDepth 100000 in
theorem rrising_none (A : Option Addr) (cap : Nat) (w : World) : Calls Try.prog 29 #[.slice A 0 cap] w fun e w' => e = .returned (.bool true) ∧ Below w.heap.size w w' := by
  go_enter Try.func29, Try.ntmps29
  go_wp2
  refine wp_loop_rounds 1 ?_
  rw [rounds_succ]
  go_wp2
  (try rw [Exit.noGoto_ret])
  go_ret
  exact ⟨rfl, Below.refl _ _⟩

theorem rrising_any {A : Option Addr} {len cap : Nat} {l : List (Int × Int)} {w : World} (hl : l.length = len) (hS : Samps w A l) (hc : len ≤ cap) (hm : cap ≤ maxLen) :
    Calls Try.prog 29 #[.slice A len cap] w fun e w' => e = .returned (.bool (decide (Rise l))) ∧ Below w.heap.size w w' := by
  by_cases h0 : 0 < len
  · obtain ⟨b, off, rfl, hcell⟩ := hS.2 (by omega)
    rw [hl] at hcell
    exact rrising_in b off len cap l w hl h0 hS.1 hc hm hcell
  · obtain rfl : len = 0 := by omega
    rw [decide_eq_true (show Rise l from fun i hi => absurd hi (by omega))]
    exact rrising_none A cap w
end Go.Proofs.Ytinplchaimejbaa
