/-
  Rising, below: what each returns of every row of samples; nothing that was there is written.
-/
import Derived.Test.YtinplchaimejbaaTLeaf
import Derived.Test.YtinplchaimejbaaTWin
import Derived.Test.YtinplchaimejbaaFoldKit
namespace Go.Proofs.Ytinplchaimejbaa
open Go.RowKit
attribute [local go_sem ↓] Go.wp_at_zero Go.wp_at_succ

set_option linter.unusedVariables false
theorem quiet_same {P : Program} {f : FuncId} {args : Array Value} {w : World} {n : Nat} {v : Value} (h : Calls P f args (w.drewN n) fun e w' => e = .returned v ∧ w.drewN n = w') : Calls P f args (w.drewN n) fun e w'' => e = .returned v ∧ ∃ m, w'' = w.drewN m :=
  h.mono fun _ _ ⟨he, hm⟩ => ⟨he, n, hm.symm⟩
theorem decide_rise_false {l : List (Int × Int)} {k : Nat} (hk : k < l.length) (h : ¬ riseAt l k) : decide (Rise l) = false := decide_eq_false fun hr => h (hr k hk)
theorem rise_upto_succ {l : List (Int × Int)} {k : Nat} (h : ∀ i, i < k → riseAt l i) (hk : riseAt l k) : ∀ i, i < k + 1 → riseAt l i := fun i hi => by
  rcases Nat.lt_or_ge i k with hlt | hge
  · exact h i hlt
  · obtain rfl : i = k := by omega
    exact hk

set_option maxRecDepth 100000 in
set_option maxHeartbeats 2000000 in
theorem rising_in (b off n cap : Nat) (l : List (Int × Int)) (w : World) (hl : l.length = n) (h0 : 0 < n) (hb : In2 l) (hc : n ≤ cap) (hm : cap ≤ maxLen)
    (hcell : ∀ j, j < n → w.cell? ⟨b, off + j * 2, none⟩ = some (.int .i64 (l.getD j (0, 0)).1) ∧ w.cell? ⟨b, off + j * 2 + 1, none⟩ = some (.int .i64 (l.getD j (0, 0)).2)) :
    Calls Try.prog 22 #[.slice (some ⟨b, off, none⟩) n cap] w fun e w' => e = .returned (.bool (decide (Rise l))) ∧ Below w.heap.size w w' := by
  unfold maxLen at hm
  obtain ⟨B, hB⟩ : ∃ B, B = decide (Rise l) := ⟨_, rfl⟩
  rw [← hB]
  have HB := Lib.hid hB
  have HL := Lib.hid hl
  have HI := Lib.hid hb
  have HCELL := Lib.hid hcell
  have h0i : (0 : Int) < (n : Int) := by omega
  clear hB hl hb hcell
  go_enter Try.func22, Try.ntmps22
  go_wp2
  go_loopw [7] (fun si wr => ∃ (k : Nat), k ≤ n ∧ si = .int .i64 (k : Int) ∧ Hid (∀ i, i < k → riseAt l i) ∧ Hid (Below w.heap.size w wr)) (fun si _ => n - (intOf si).toNat)
  case atStart => exact ⟨0, by omega, rfl, Lib.hid (fun i hi => absurd hi (by omega)), Lib.hid (Below.refl _ _)⟩
  case round =>
    obtain ⟨k, hk, rfl, HR, HW⟩ := hrel
    by_cases hlt : k < n
    · obtain ⟨c0, c1⟩ := HCELL.out k hlt
      rw [← HW.out.cell (World.block_lt_of_cell? w _ c0)] at c0
      rw [← HW.out.cell (World.block_lt_of_cell? w _ c1)] at c1
      have hbk := HI.out (l.getD k (0, 0)) (sample_mem (by rw [HL.out]; omega))
      have hat : riseAt l k ↔ Ag.begin_ (l.getD k (0, 0)).1 ∧ (0 < k → (l.getD (k - 1) (0, 0)).1 < (l.getD k (0, 0)).1) := Iff.rfl
      generalize hs1 : l.getD k (0, 0) = s1 at c0 c1 hbk hat
      obtain ⟨t1, v1⟩ := s1
      simp only at c0 c1 hbk hat
      have m2 := fun w => mayT_any t1 w hbk.1
      have hcap : (k : Int) < (n : Int) := by omega
      have HW9 : Hid (Below w.heap.size w (wr.alloc (.cells #[.int .i64 t1, .int .i64 v1] 30))) := Lib.hid (HW.out.alloc HW.out.size _)
      have e0 : (wr.alloc (.cells #[.int .i64 t1, .int .i64 v1] 30)).cell? ⟨wr.heap.size, 0, none⟩ = some (.int .i64 t1) := by simp
      have E0 := Lib.hid e0
      have HC9 : Hid (∀ i : Nat, i < n → (wr.alloc (.cells #[.int .i64 t1, .int .i64 v1] 30)).cell? ⟨b, off + i * 2, none⟩ = some (.int .i64 (l.getD i (0, 0)).1)) := Lib.hid (fun i hi => by
        have c := (HCELL.out i hi).1
        rw [HW9.out.cell (World.block_lt_of_cell? w _ c)]; exact c)
      clear e0
      go_upto_region 4 with fail
      clear c0 c1
      have hc9 := E0.out
      generalize wr.alloc (.cells #[.int .i64 t1, .int .i64 v1] 30) = ws at *
      generalize wr.heap.size = g9 at *
      by_cases hbe : Ag.begin_ t1
      case neg =>
        rw [decide_eq_false hbe] at m2
        have M2 := Lib.hid m2
        have HN : Hid (B = false) := Lib.hid (by rw [HB.out]; exact decide_rise_false (by rw [HL.out]; exact hlt) (fun h => hbe (hat.1 h).1))
        clear m2 hat hbe hs1
        go_quiet ((go_at_call 28; exact quiet_same (M2.out _)))
        go_wp2
        (try rw [Exit.noGoto_ret])
        go_ret
        exact ⟨by rw [HN.out]; rfl, past HW9.out (belowN _ _)⟩
      rw [decide_eq_true hbe] at m2
      have M2 := Lib.hid m2
      by_cases hk0 : 0 < k
      · have c2 := HC9.out (k - 1) (by omega)
        generalize hs0 : (l.getD (k - 1) (0, 0)).1 = t0 at c2 hat
        have i1 : (0 : Int) < (k : Int) := by omega
        have i2 : (1 : Int) ≤ (k : Int) := by omega
        have i3 : (0 : Int) ≤ (k : Int) - 1 := by omega
        have i4 : (k : Int) - 1 < (n : Int) := by omega
        have i5 : ((k : Int) - 1).toNat = k - 1 := by omega
        have i6 : IntKind.i64.wrap ((k : Int) - 1) = (k : Int) - 1 := by rw [IntKind.wrap_i64]; omega
        by_cases hle : t1 ≤ t0
        · have HN : Hid (B = false) := Lib.hid (by rw [HB.out]; exact decide_rise_false (by rw [HL.out]; exact hlt) (fun h => absurd ((hat.1 h).2 hk0) (by omega)))
          clear m2 hat hbe hs1 hs0
          go_quiet ((go_at_call 28; exact quiet_same (M2.out _)))
          go_wp2
          (try rw [Exit.noGoto_ret])
          go_ret
          exact ⟨by rw [HN.out]; rfl, past HW9.out (belowN _ _)⟩
        · have HN : Hid (∀ i, i < k + 1 → riseAt l i) := Lib.hid (rise_upto_succ HR.out (hat.2 ⟨hbe, fun _ => by omega⟩))
          have hle' : decide (t1 ≤ t0) = false := decide_eq_false hle
          clear m2 hat hbe hs1 hs0 hle
          go_quiet ((go_at_call 28; exact quiet_same (M2.out _)))
          go_wp2
          go_roundw
          case rel => exact ⟨k + 1, by omega, by go_num, HN, Lib.hid (past HW9.out (belowN _ _))⟩
          case measure => simp [intOf]; omega
      · have HN : Hid (∀ i, i < k + 1 → riseAt l i) := Lib.hid (rise_upto_succ HR.out (hat.2 ⟨hbe, fun h => absurd h hk0⟩))
        obtain rfl : k = 0 := by omega
        clear m2 hat hbe hs1 hk0
        simp only [Int.ofNat_zero] at *
        go_quiet ((go_at_call 28; exact quiet_same (M2.out _)))
        go_wp2
        go_roundw
        case rel => exact ⟨0 + 1, by omega, by go_num, HN, Lib.hid (past HW9.out (belowN _ _))⟩
        case measure => simp [intOf]; omega
    · have HN : Hid (B = true) := Lib.hid (by rw [HB.out]; exact decide_eq_true (fun i hi => HR.out i (by rw [HL.out] at hi; omega)))
      go_wp2
      (try rw [Exit.noGoto_ret])
      go_ret
      exact ⟨by rw [HN.out]; rfl, HW.out⟩

set_option maxRecDepth 100000 in
theorem rising_none (A : Option Addr) (cap : Nat) (w : World) : Calls Try.prog 22 #[.slice A 0 cap] w fun e w' => e = .returned (.bool true) ∧ Below w.heap.size w w' := by
  go_enter Try.func22, Try.ntmps22
  go_wp2
  refine wp_loop_rounds 1 ?_
  rw [rounds_succ]
  go_wp2
  (try rw [Exit.noGoto_ret])
  go_ret
  exact ⟨rfl, Below.refl _ _⟩

theorem rising_any {A : Option Addr} {len cap : Nat} {l : List (Int × Int)} {w : World} (hl : l.length = len) (hS : Samps w A l) (hc : len ≤ cap) (hm : cap ≤ maxLen) :
    Calls Try.prog 22 #[.slice A len cap] w fun e w' => e = .returned (.bool (decide (Rise l))) ∧ Below w.heap.size w w' := by
  by_cases h0 : 0 < len
  · obtain ⟨b, off, rfl, hcell⟩ := hS.2 (by omega)
    rw [hl] at hcell
    exact rising_in b off len cap l w hl h0 hS.1 hc hm hcell
  · obtain rfl : len = 0 := by omega
    rw [decide_eq_true (show Rise l from fun i hi => absurd hi (by omega))]
    exact rising_none A cap w

end Go.Proofs.Ytinplchaimejbaa
