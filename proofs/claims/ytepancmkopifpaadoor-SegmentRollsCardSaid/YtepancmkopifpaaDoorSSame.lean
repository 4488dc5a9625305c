/-
  Same of segments; Info of bytes: what each returns; nothing that was there is written.
-/
import Derived.Test.YtepancmkopifpaaDoorSGetG
import Derived.Test.YtepancmkopifpaaDoorBSame
set_option maxRecDepth 100000
namespace Go.Proofs.YtepancmkopifpaaDoor
open Go.RowKit
attribute [local go_sem ↓] Go.wp_at_zero Go.wp_at_succ
set_option linter.unusedVariables false

set_option maxRecDepth 100000 in
set_option maxHeartbeats 1000000 in
theorem equalA_in (b off b2 off2 n ca cb : Nat) (l : List Ag) (w : World) (hc : n ≤ ca) (hc2 : n ≤ cb) (hm : ca ≤ maxLen) (hm2 : cb ≤ maxLen) (h0 : 0 < n)
    (h1 : ∀ w', Below w.heap.size w w' → ∀ j, j < n → HoldsAt w' b (off + j * 7) (agAt l j)) (h2 : ∀ w', Below w.heap.size w w' → ∀ j, j < n → HoldsAt w' b2 (off2 + j * 7) (agAt l j)) :
    Calls Tryd.prog 29 #[.slice (some ⟨b, off, none⟩) n ca, .slice (some ⟨b2, off2, none⟩) n cb] w fun e w' => e = .returned (.bool true) ∧ Below w.heap.size w w' := by
  unfold maxLen at hm hm2
  have H1 := Lib.hid h1
  have H2 := Lib.hid h2
  have h0i : (0 : Int) < (n : Int) := by omega
  clear h1 h2
  go_enter Tryd.func29, Tryd.ntmps29
  go_wp2
  go_loopw [13] (fun si wr => ∃ (k : Nat), k ≤ n ∧ si = .int .i64 (k : Int) ∧ Hid (Below w.heap.size w wr)) (fun si _ => n - (intOf si).toNat)
  case atStart => exact ⟨0, by omega, rfl, Lib.hid (Below.refl _ _)⟩
  case round =>
    obtain ⟨k, hk, rfl, HW⟩ := hrel
    by_cases hlt : k < n
    · obtain ⟨c0, c1, c2, c3, c4, c5, c6⟩ := H1.out wr HW.out k hlt
      obtain ⟨e0, e1, e2, e3, e4, e5, e6⟩ := H2.out wr HW.out k hlt
      generalize agAt l k = a at c0 c1 c2 c3 c4 c5 c6 e0 e1 e2 e3 e4 e5 e6
      have i1 : (0 : Int) ≤ (k : Int) := by omega
      have i2 : (k : Int) < (n : Int) := by omega
      go_upto_region 6 with fail
      go_quiet (fail)
      have HW2 := Lib.hid (past HW.out (belowN wr nq))
      clear c0 c1 c2 c3 c4 c5 c6 e0 e1 e2 e3 e4 e5 e6
      generalize wr.drewN nq = wz at *
      go_wp2
      go_roundw
      case rel => exact ⟨k + 1, by omega, by go_num, HW2⟩
      case measure => simp [intOf]; omega
    · go_wp2
      (try rw [Exit.noGoto_ret])
      go_ret
      exact ⟨rfl, HW.out⟩

set_option maxRecDepth 100000 in
theorem equalA_none (A B : Option Addr) (ca cb : Nat) (w : World) : Calls Tryd.prog 29 #[.slice A 0 ca, .slice B 0 cb] w fun e w' => e = .returned (.bool true) ∧ Below w.heap.size w w' := by
  go_enter Tryd.func29, Tryd.ntmps29
  go_wp2
  refine wp_loop_rounds 1 ?_
  rw [rounds_succ]
  go_wp2
  (try rw [Exit.noGoto_ret])
  go_ret
  exact ⟨rfl, Below.refl _ _⟩

theorem equalA_any {A B : Option Addr} {n ca cb : Nat} {l : List Ag} {w : World} (h1 : RowOf w A n ca l) (h2 : RowOf w B n cb l) :
    Calls Tryd.prog 29 #[.slice A n ca, .slice B n cb] w fun e w' => e = .returned (.bool true) ∧ Below w.heap.size w w' := by
  by_cases h0 : 0 < n
  · obtain ⟨b, off, rfl, hc1⟩ := h1.form h0
    obtain ⟨b2, off2, rfl, hc2⟩ := h2.form h0
    exact equalA_in b off b2 off2 n ca cb l w h1.2.2.1 h2.2.2.1 h1.2.2.2.1 h2.2.2.2.1 h0 hc1 hc2
  · obtain rfl : n = 0 := by omega
    exact equalA_none A B ca cb w

abbrev sgV (i k f t : Int) (A : Option Addr) (n ca : Nat) (B : Option Addr) (m cb : Nat) : Value := .agg #[.int .i64 i, .int .i64 k, .int .i64 f, .int .i64 t, .slice A n ca, .slice B m cb]

set_option maxHeartbeats 1000000 in
theorem sameG_eq {i k f t : Int} {sm : List (Int × Int)} {ag : List Ag} {A A' B B' : Option Addr} {n ca m cb n' ca' m' cb' : Nat} {w : World} (h1 : SegAt w ⟨i, k, f, t, sm, ag⟩ A n ca B m cb) (h2 : SegAt w ⟨i, k, f, t, sm, ag⟩ A' n' ca' B' m' cb') :
    Calls Tryd.prog 13 #[.agg #[.int .i64 i, .int .i64 k, .int .i64 f, .int .i64 t, .slice A n ca, .slice B m cb], .agg #[.int .i64 i, .int .i64 k, .int .i64 f, .int .i64 t, .slice A' n' ca', .slice B' m' cb']] w fun e w' => e = .returned (.bool true) ∧ Below w.heap.size w w' := by
  obtain rfl : n = n' := by rw [← h1.sn, ← h2.sn]
  obtain rfl : m = m' := by rw [← h1.ag.1, ← h2.ag.1]
  have m1 := fun u (hu : Below w.heap.size w u) => equal_any h1.sn (h1.sm.below hu).samps (h2.sm.below hu).samps (by rw [← h1.sn]; exact h1.sm.le) (by rw [← h2.sn]; exact h2.sm.le) h1.sm.max h2.sm.max
  have m2 := fun u (hu : Below w.heap.size w u) => equalA_any (h1.below hu).ag (h2.below hu).ag
  have M1 := Lib.hid m1
  have M2 := Lib.hid m2
  clear h1 h2 m1 m2
  go_enter Tryd.func13, Tryd.ntmps13
  go_wp2_with fail
  refine (M1.out _ (past (below_box _ _) (below_box _ _))).mono ?_
  rintro e w2 ⟨rfl, hb2⟩
  have HB2 := Lib.hid (past (past (below_box _ _) (below_box _ _)) hb2)
  have c0 := ((SgV.new w i k f t (.slice A n ca) (.slice B m cb) 26).below (below_box _ (.cells #[.int .i64 i, .int .i64 k, .int .i64 f, .int .i64 t, .slice A' n ca', .slice B' m cb'] 26))).below hb2
  have c1 := (SgV.new (w.alloc (.cells #[.int .i64 i, .int .i64 k, .int .i64 f, .int .i64 t, .slice A n ca, .slice B m cb] 26)) i k f t (.slice A' n ca') (.slice B' m cb') 26).below hb2
  have d0 := c0.c5
  have d1 := c1.c5
  have e1 : (w.alloc (.cells #[.int .i64 i, .int .i64 k, .int .i64 f, .int .i64 t, .slice A n ca, .slice B m cb] 26)).heap.size = w.heap.size + 1 := by simp
  rw [e1] at d1
  clear c0 c1 hb2 e1
  go_wp2_with fail
  refine (M2.out _ HB2.out).mono ?_
  rintro e w3 ⟨rfl, hb3⟩
  have HB3 := Lib.hid (past HB2.out hb3)
  clear hb3
  go_wp2
  go_ret
  exact ⟨rfl, HB3.out⟩

set_option maxHeartbeats 1000000 in
theorem sameG_ne {i k f t i' k' f' t' : Int} {A A' B B' : Option Addr} {n ca m cb n' ca' m' cb' : Nat} {w : World} (h : ¬ (i = i' ∧ k = k' ∧ f = f' ∧ t = t')) :
    Calls Tryd.prog 13 #[.agg #[.int .i64 i, .int .i64 k, .int .i64 f, .int .i64 t, .slice A n ca, .slice B m cb], .agg #[.int .i64 i', .int .i64 k', .int .i64 f', .int .i64 t', .slice A' n' ca', .slice B' m' cb']] w fun e w' => e = .returned (.bool false) ∧ Below w.heap.size w w' := by
  have HB : Hid (∀ o o', Below w.heap.size w ((w.alloc o).alloc o')) := Lib.hid (fun o o' => past (below_box _ _) (below_box _ _))
  by_cases h1 : i = i'
  · by_cases h2 : k = k'
    · by_cases h3 : f = f'
      · have h4 : ¬ t = t' := fun h4 => h ⟨h1, h2, h3, h4⟩
        have e1 : (i == i') = true := by simp [h1]
        have e2 : (k == k') = true := by simp [h2]
        have e3 : (f == f') = true := by simp [h3]
        have e4 : (t == t') = false := by simp [h4]
        clear h h1 h2 h3 h4
        go_enter Tryd.func13, Tryd.ntmps13
        go_wp2
        go_ret
        exact ⟨rfl, HB.out _ _⟩
      · have e1 : (i == i') = true := by simp [h1]
        have e2 : (k == k') = true := by simp [h2]
        have e3 : (f == f') = false := by simp [h3]
        clear h h1 h2 h3
        go_enter Tryd.func13, Tryd.ntmps13
        go_wp2
        go_ret
        exact ⟨rfl, HB.out _ _⟩
    · have e1 : (i == i') = true := by simp [h1]
      have e2 : (k == k') = false := by simp [h2]
      clear h h1 h2
      go_enter Tryd.func13, Tryd.ntmps13
      go_wp2
      go_ret
      exact ⟨rfl, HB.out _ _⟩
  · have e1 : (i == i') = false := by simp [h1]
    clear h h1
    go_enter Tryd.func13, Tryd.ntmps13
    go_wp2
    go_ret
    exact ⟨rfl, HB.out _ _⟩
end Go.Proofs.YtepancmkopifpaaDoor
