/-
  SameAggs of two rows that read as the same aggregates: true; nothing that was there is written.
  SameSamples of two rows that read as the same samples: true; nothing that was there is written.
-/
import Derived.Test.YtepancmkopifpaaDoorTRow
namespace Go.Proofs.YtepancmkopifpaaDoor
open Go.RowKit
attribute [local go_sem ↓] Go.wp_at_zero Go.wp_at_succ
set_option linter.unusedVariables false

theorem RowOf.form {w : World} {A : Option Addr} {len cap : Nat} {l : List Ag} (h : RowOf w A len cap l) (h0 : 0 < len) : ∃ b off, A = some ⟨b, off, none⟩ ∧ ∀ w', Below w.heap.size w w' → ∀ j, j < len → HoldsAt w' b (off + j * 7) (agAt l j) := by
  obtain ⟨b, off, e, hc⟩ := h.2.1.2 (by rw [h.1]; exact h0)
  exact ⟨b, off, e, fun w' hb j hj => (hc j (by rw [h.1]; exact hj)).below hb⟩

set_option maxRecDepth 100000 in
set_option maxHeartbeats 1000000 in
theorem same_in (b off b2 off2 n ca cb : Nat) (l : List Ag) (w : World) (hc : n ≤ ca) (hc2 : n ≤ cb) (hm : ca ≤ maxLen) (hm2 : cb ≤ maxLen) (h0 : 0 < n)
    (h1 : ∀ w', Below w.heap.size w w' → ∀ j, j < n → HoldsAt w' b (off + j * 7) (agAt l j)) (h2 : ∀ w', Below w.heap.size w w' → ∀ j, j < n → HoldsAt w' b2 (off2 + j * 7) (agAt l j)) :
    Calls Tryd.prog 38 #[.slice (some ⟨b, off, none⟩) n ca, .slice (some ⟨b2, off2, none⟩) n cb] w fun e w' => e = .returned (.bool true) ∧ Below w.heap.size w w' := by
  unfold maxLen at hm hm2
  have H1 := Lib.hid h1
  have H2 := Lib.hid h2
  have h0i : (0 : Int) < (n : Int) := by omega
  clear h1 h2
  go_enter Tryd.func38, Tryd.ntmps38
  go_wp2
  go_loopw [5] (fun si wr => ∃ (k : Nat), k ≤ n ∧ si = .int .i64 (k : Int) ∧ Hid (Below w.heap.size w wr)) (fun si _ => n - (intOf si).toNat)
  case atStart => exact ⟨0, by omega, rfl, Lib.hid (Below.refl _ _)⟩
  case round =>
    obtain ⟨k, hk, rfl, HW⟩ := hrel
    by_cases hlt : k < n
    · obtain ⟨c0, c1, c2, c3, c4, c5, c6⟩ := H1.out wr HW.out k hlt
      obtain ⟨e0, e1, e2, e3, e4, e5, e6⟩ := H2.out wr HW.out k hlt
      generalize agAt l k = a at c0 c1 c2 c3 c4 c5 c6 e0 e1 e2 e3 e4 e5 e6
      have i1 : (0 : Int) ≤ (k : Int) := by omega
      have i2 : (k : Int) < (n : Int) := by omega
      go_upto_region 6 with fail
      go_quiet (fail)
      have HW2 := Lib.hid (past HW.out (belowN wr nq))
      clear c0 c1 c2 c3 c4 c5 c6 e0 e1 e2 e3 e4 e5 e6
      generalize wr.drewN nq = wz at *
      go_wp2
      go_roundw
      case rel => exact ⟨k + 1, by omega, by go_num, HW2⟩
      case measure => simp [intOf]; omega
    · go_wp2
      (try rw [Exit.noGoto_ret])
      go_ret
      exact ⟨rfl, HW.out⟩

set_option maxRecDepth 100000 in
theorem same_none (A B : Option Addr) (ca cb : Nat) (w : World) : Calls Tryd.prog 38 #[.slice A 0 ca, .slice B 0 cb] w fun e w' => e = .returned (.bool true) ∧ Below w.heap.size w w' := by
  go_enter Tryd.func38, Tryd.ntmps38
  go_wp2
  refine wp_loop_rounds 1 ?_
  rw [rounds_succ]
  go_wp2
  (try rw [Exit.noGoto_ret])
  go_ret
  exact ⟨rfl, Below.refl _ _⟩

theorem same_any {A B : Option Addr} {n ca cb : Nat} {l : List Ag} {w : World} (h1 : RowOf w A n ca l) (h2 : RowOf w B n cb l) :
    Calls Tryd.prog 38 #[.slice A n ca, .slice B n cb] w fun e w' => e = .returned (.bool true) ∧ Below w.heap.size w w' := by
  by_cases h0 : 0 < n
  · obtain ⟨b, off, rfl, hc1⟩ := h1.form h0
    obtain ⟨b2, off2, rfl, hc2⟩ := h2.form h0
    exact same_in b off b2 off2 n ca cb l w h1.2.2.1 h2.2.2.1 h1.2.2.2.1 h2.2.2.2.1 h0 hc1 hc2
  · obtain rfl : n = 0 := by omega
    exact same_none A B ca cb w
end Go.Proofs.YtepancmkopifpaaDoor
namespace Go.Proofs.YtepancmkopifpaaDoor
open Go.RowKit
attribute [local go_sem ↓] Go.wp_at_zero Go.wp_at_succ
set_option linter.unusedVariables false

set_option maxRecDepth 100000 in
set_option maxHeartbeats 1000000 in
theorem sames_in (b off b2 off2 n ca cb : Nat) (l : List (Int × Int)) (w : World) (hl : l.length = n) (hc : n ≤ ca) (hc2 : n ≤ cb) (hm : ca ≤ maxLen) (hm2 : cb ≤ maxLen) (h0 : 0 < n)
    (h1 : Samps w (some ⟨b, off, none⟩) l) (h2 : Samps w (some ⟨b2, off2, none⟩) l) :
    Calls Tryd.prog 37 #[.slice (some ⟨b, off, none⟩) n ca, .slice (some ⟨b2, off2, none⟩) n cb] w fun e w' => e = .returned (.bool true) ∧ Below w.heap.size w w' := by
  unfold maxLen at hm hm2
  have H1 : Hid (∀ w', Below w.heap.size w w' → ∀ j, j < n → w'.cell? ⟨b, off + j * 2, none⟩ = some (.int .i64 (l.getD j (0, 0)).1) ∧ w'.cell? ⟨b, off + j * 2 + 1, none⟩ = some (.int .i64 (l.getD j (0, 0)).2)) := Lib.hid (fun w' hb j hj => by
    obtain ⟨b', o', e, hcc⟩ := (h1.below hb).2 (by rw [hl]; exact h0)
    injection e with e
    injection e with e1 e2
    subst e1 e2
    exact hcc j (by rw [hl]; exact hj))
  have H2 : Hid (∀ w', Below w.heap.size w w' → ∀ j, j < n → w'.cell? ⟨b2, off2 + j * 2, none⟩ = some (.int .i64 (l.getD j (0, 0)).1) ∧ w'.cell? ⟨b2, off2 + j * 2 + 1, none⟩ = some (.int .i64 (l.getD j (0, 0)).2)) := Lib.hid (fun w' hb j hj => by
    obtain ⟨b', o', e, hcc⟩ := (h2.below hb).2 (by rw [hl]; exact h0)
    injection e with e
    injection e with e1 e2
    subst e1 e2
    exact hcc j (by rw [hl]; exact hj))
  have h0i : (0 : Int) < (n : Int) := by omega
  clear h1 h2 hl
  go_enter Tryd.func37, Tryd.ntmps37
  go_wp2
  go_loopw [5] (fun si wr => ∃ (k : Nat), k ≤ n ∧ si = .int .i64 (k : Int) ∧ Hid (Below w.heap.size w wr)) (fun si _ => n - (intOf si).toNat)
  case atStart => exact ⟨0, by omega, rfl, Lib.hid (Below.refl _ _)⟩
  case round =>
    obtain ⟨k, hk, rfl, HW⟩ := hrel
    by_cases hlt : k < n
    · obtain ⟨c0, c1⟩ := H1.out wr HW.out k hlt
      obtain ⟨e0, e1⟩ := H2.out wr HW.out k hlt
      generalize l.getD k (0, 0) = a at c0 c1 e0 e1
      have i1 : (0 : Int) ≤ (k : Int) := by omega
      have i2 : (k : Int) < (n : Int) := by omega
      go_upto_region 6 with fail
      go_quiet (fail)
      have HW2 := Lib.hid (past HW.out (belowN wr nq))
      clear c0 c1 e0 e1
      generalize wr.drewN nq = wz at *
      go_wp2
      go_roundw
      case rel => exact ⟨k + 1, by omega, by go_num, HW2⟩
      case measure => simp [intOf]; omega
    · go_wp2
      (try rw [Exit.noGoto_ret])
      go_ret
      exact ⟨rfl, HW.out⟩

set_option maxRecDepth 100000 in
theorem sames_none (A B : Option Addr) (ca cb : Nat) (w : World) : Calls Tryd.prog 37 #[.slice A 0 ca, .slice B 0 cb] w fun e w' => e = .returned (.bool true) ∧ Below w.heap.size w w' := by
  go_enter Tryd.func37, Tryd.ntmps37
  go_wp2
  refine wp_loop_rounds 1 ?_
  rw [rounds_succ]
  go_wp2
  (try rw [Exit.noGoto_ret])
  go_ret
  exact ⟨rfl, Below.refl _ _⟩

theorem sames_any {A B : Option Addr} {n ca cb : Nat} {l : List (Int × Int)} {w : World} (hl : l.length = n) (h1 : Samps w A l) (h2 : Samps w B l) (hc : n ≤ ca) (hc2 : n ≤ cb) (hm : ca ≤ maxLen) (hm2 : cb ≤ maxLen) :
    Calls Tryd.prog 37 #[.slice A n ca, .slice B n cb] w fun e w' => e = .returned (.bool true) ∧ Below w.heap.size w w' := by
  by_cases h0 : 0 < n
  · obtain ⟨b, off, rfl, _⟩ := h1.2 (by omega)
    obtain ⟨b2, off2, rfl, _⟩ := h2.2 (by omega)
    exact sames_in b off b2 off2 n ca cb l w hl hc hc2 hm hm2 h0 h1 h2
  · obtain rfl : n = 0 := by omega
    exact sames_none A B ca cb w
end Go.Proofs.YtepancmkopifpaaDoor
