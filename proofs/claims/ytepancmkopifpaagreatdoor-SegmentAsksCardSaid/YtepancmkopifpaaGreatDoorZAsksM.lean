/-
  Rows of samples and of windows, compared: whether they read alike, of any two rows; nothing that was there is written.
  Rows of samples and of windows, compared: whether they read alike, of any two rows; nothing that was there is written.
  Same and SameSeg of any two segments: whether they are one; nothing that was there is written.
  What each of SegmentAsks' calls returns, in one form.
-/
import Derived.Test.YtepancmkopifpaaGreatDoorHRow
import Derived.Test.YtepancmkopifpaaGreatDoorZMay
import Derived.Test.YtepancmkopifpaaGreatDoorSInfo
import Derived.Test.YtepancmkopifpaaGreatDoorZRollG
import Derived.Test.YtepancmkopifpaaGreatDoorZInfo
set_option maxRecDepth 100000
namespace Go.Proofs.YtepancmkopifpaaGreatDoor
open Go.RowKit
attribute [local go_sem ↓] Go.wp_at_zero Go.wp_at_succ
set_option linter.unusedVariables false

theorem ag_neq {a d : Ag} (h : a ≠ d) (w : World) : (binOp .neq 50 (.agg #[.int .i64 a.fr, .int .i64 a.cn, .int .i64 a.sm, .int .i64 a.mn, .int .i64 a.mx, .int .i64 a.fi, .int .i64 a.la]) (.agg #[.int .i64 d.fr, .int .i64 d.cn, .int .i64 d.sm, .int .i64 d.mn, .int .i64 d.mx, .int .i64 d.fi, .int .i64 d.la])).run Tryz.prog w = .ok (.bool true) w := by
  obtain ⟨a0, a1, a2, a3, a4, a5, a6⟩ := a
  obtain ⟨d0, d1, d2, d3, d4, d5, d6⟩ := d
  go_simp
  by_cases h0 : a0 = d0
  case neg => simp [h0]
  by_cases h1 : a1 = d1
  case neg => simp [h1]
  by_cases h2 : a2 = d2
  case neg => simp [h2]
  by_cases h3 : a3 = d3
  case neg => simp [h3]
  by_cases h4 : a4 = d4
  case neg => simp [h4]
  by_cases h5 : a5 = d5
  case neg => simp [h5]
  by_cases h6 : a6 = d6
  case neg => simp [h6]
  exfalso
  exact h (by rw [h0, h1, h2, h3, h4, h5, h6])
theorem sm_neq {a d : Int × Int} (h : a ≠ d) (w : World) : (binOp .neq 48 (.agg #[.int .i64 a.1, .int .i64 a.2]) (.agg #[.int .i64 d.1, .int .i64 d.2])).run Tryz.prog w = .ok (.bool true) w := by
  obtain ⟨a0, a1⟩ := a
  obtain ⟨d0, d1⟩ := d
  go_simp
  by_cases h0 : a0 = d0
  case neg => simp [h0]
  by_cases h1 : a1 = d1
  case neg => simp [h1]
  exfalso
  exact h (by rw [h0, h1])
theorem rows_ne {α : Type} {l l' : List α} {n k : Nat} {x : α} (hl : l.length = n) (hl' : l'.length = n) (hk : k < n) (h : l.getD k x ≠ l'.getD k x) : l ≠ l' := fun e => h (by rw [e])
theorem rows_eq {α : Type} {l l' : List α} {n : Nat} {x : α} (hl : l.length = n) (hl' : l'.length = n) (h : ∀ j, j < n → l.getD j x = l'.getD j x) : l = l' := by
  refine List.ext_getElem (by omega) (fun j h1 h2 => ?_)
  have := h j (by omega)
  rw [List.getD_eq_getElem?_getD, List.getD_eq_getElem?_getD, List.getElem?_eq_getElem h1, List.getElem?_eq_getElem h2] at this
  exact this

set_option maxHeartbeats 1000000 in
theorem sameA_in (b off b2 off2 n ca cb : Nat) (l l' : List Ag) (w : World) (hl : l.length = n) (hl' : l'.length = n) (hc : n ≤ ca) (hc2 : n ≤ cb) (hm : ca ≤ maxLen) (hm2 : cb ≤ maxLen) (h0 : 0 < n)
    (h1 : ∀ w', Below w.heap.size w w' → ∀ j, j < n → HoldsAt w' b (off + j * 7) (agAt l j)) (h2 : ∀ w', Below w.heap.size w w' → ∀ j, j < n → HoldsAt w' b2 (off2 + j * 7) (agAt l' j)) :
    Calls Tryz.prog 47 #[.slice (some ⟨b, off, none⟩) n ca, .slice (some ⟨b2, off2, none⟩) n cb] w fun e w' => ∃ D : Bool, e = .returned (.bool D) ∧ (D = true ↔ l = l') ∧ Below w.heap.size w w' := by
  unfold maxLen at hm hm2
  have H1 := Lib.hid h1
  have H2 := Lib.hid h2
  have HL := Lib.hid hl
  have HL' := Lib.hid hl'
  have h0i : (0 : Int) < (n : Int) := by omega
  clear h1 h2 hl hl'
  go_enter Tryz.func47, Tryz.ntmps47
  go_wp2
  go_loopw [5] (fun si wr => ∃ (k : Nat), k ≤ n ∧ si = .int .i64 (k : Int) ∧ Hid (∀ j, j < k → agAt l j = agAt l' j) ∧ Hid (Below w.heap.size w wr)) (fun si _ => n - (intOf si).toNat)
  case atStart => exact ⟨0, by omega, rfl, Lib.hid (fun j hj => absurd hj (by omega)), Lib.hid (Below.refl _ _)⟩
  case round =>
    obtain ⟨k, hk, rfl, HE, HW⟩ := hrel
    by_cases hlt : k < n
    · obtain ⟨c0, c1, c2, c3, c4, c5, c6⟩ := H1.out wr HW.out k hlt
      obtain ⟨e0, e1, e2, e3, e4, e5, e6⟩ := H2.out wr HW.out k hlt
      obtain ⟨a, ha⟩ : ∃ a, agAt l k = a := ⟨_, rfl⟩
      obtain ⟨d, hd⟩ : ∃ d, agAt l' k = d := ⟨_, rfl⟩
      rw [ha] at c0 c1 c2 c3 c4 c5 c6
      rw [hd] at e0 e1 e2 e3 e4 e5 e6
      have HA := Lib.hid ha
      have HD := Lib.hid hd
      have i1 : (0 : Int) ≤ (k : Int) := by omega
      have i2 : (k : Int) < (n : Int) := by omega
      clear ha hd
      by_cases hne : a = d
      · subst hne
        have HE2 : Hid (∀ j, j < k + 1 → agAt l j = agAt l' j) := Lib.hid (fun j hj => by
          rcases Nat.lt_or_ge j k with h | h
          · exact HE.out j h
          · obtain rfl : j = k := by omega
            exact HA.out.trans HD.out.symm)
        go_upto_region 6 with fail
        go_quiet (fail)
        have HW2 := Lib.hid (past HW.out (belowN wr nq))
        clear c0 c1 c2 c3 c4 c5 c6 e0 e1 e2 e3 e4 e5 e6
        generalize wr.drewN nq = wz at *
        go_wp2
        go_roundw
        case rel => exact ⟨k + 1, by omega, by go_num, HE2, HW2⟩
        case measure => simp [intOf]; omega
      · have hN := ag_neq hne
        have HN : Hid (l ≠ l') := Lib.hid (fun e => hne (by rw [← HA.out, ← HD.out, e]))
        clear hne
        go_upto_region 6 with fail
        go_quiet (fail)
        have HW2 := Lib.hid (past HW.out (belowN wr nq))
        clear c0 c1 c2 c3 c4 c5 c6 e0 e1 e2 e3 e4 e5 e6 hN
        generalize wr.drewN nq = wz at *
        go_wp2
        (try rw [Exit.noGoto_ret])
        go_ret
        exact ⟨false, rfl, ⟨(fun h => by cases h), fun h => absurd h HN.out⟩, HW2.out⟩
    · obtain rfl : k = n := by omega
      have HEQ : Hid (l = l') := Lib.hid (rows_eq (x := Ag.zero) HL.out HL'.out HE.out)
      go_wp2
      (try rw [Exit.noGoto_ret])
      go_ret
      exact ⟨true, rfl, ⟨fun _ => HEQ.out, fun _ => rfl⟩, HW.out⟩

theorem sameA_none (A B : Option Addr) (ca cb : Nat) (w : World) : Calls Tryz.prog 47 #[.slice A 0 ca, .slice B 0 cb] w fun e w' => e = .returned (.bool true) ∧ Below w.heap.size w w' := by
  go_enter Tryz.func47, Tryz.ntmps47
  go_wp2
  refine wp_loop_rounds 1 ?_
  rw [rounds_succ]
  go_wp2
  (try rw [Exit.noGoto_ret])
  go_ret
  exact ⟨rfl, Below.refl _ _⟩
theorem sameA_len (A B : Option Addr) (n m ca cb : Nat) (w : World) (h : n ≠ m) : Calls Tryz.prog 47 #[.slice A n ca, .slice B m cb] w fun e w' => e = .returned (.bool false) ∧ Below w.heap.size w w' := by
  have i1 : ((n : Int) != (m : Int)) = true := by simp; omega
  have i2 : ¬ (n : Int) = (m : Int) := by omega
  go_enter Tryz.func47, Tryz.ntmps47
  go_wp2
  (try rw [Exit.noGoto_ret])
  go_ret
  exact ⟨rfl, Below.refl _ _⟩
theorem sameA_any {A B : Option Addr} {n m ca cb : Nat} {l l' : List Ag} {w : World} (h1 : RowOf w A n ca l) (h2 : RowOf w B m cb l') :
    Calls Tryz.prog 47 #[.slice A n ca, .slice B m cb] w fun e w' => ∃ D : Bool, e = .returned (.bool D) ∧ (D = true ↔ l = l') ∧ Below w.heap.size w w' := by
  have hl1 := h1.1
  have hl2 := h2.1
  by_cases hnm : n = m
  · subst hnm
    by_cases h0 : 0 < n
    · obtain ⟨b, off, rfl, hc1⟩ := h1.form h0
      obtain ⟨b2, off2, rfl, hc2⟩ := h2.form h0
      exact sameA_in b off b2 off2 n ca cb l l' w hl1 hl2 h1.2.2.1 h2.2.2.1 h1.2.2.2.1 h2.2.2.2.1 h0 hc1 hc2
    · obtain rfl : n = 0 := by omega
      refine (sameA_none A B ca cb w).mono ?_
      rintro e w' ⟨rfl, hb⟩
      exact ⟨true, rfl, ⟨fun _ => by rw [List.length_eq_zero_iff.1 hl1, List.length_eq_zero_iff.1 hl2], fun _ => rfl⟩, hb⟩
  · refine (sameA_len A B n m ca cb w hnm).mono ?_
    rintro e w' ⟨rfl, hb⟩
    exact ⟨false, rfl, ⟨(fun h => by cases h), fun h => absurd (by rw [← hl1, ← hl2, h]) hnm⟩, hb⟩

set_option maxHeartbeats 1000000 in
theorem sameS_in (b off b2 off2 n ca cb : Nat) (l l' : List (Int × Int)) (w : World) (hl : l.length = n) (hl' : l'.length = n) (hc : n ≤ ca) (hc2 : n ≤ cb) (hm : ca ≤ maxLen) (hm2 : cb ≤ maxLen) (h0 : 0 < n)
    (h1 : ∀ w', Below w.heap.size w w' → ∀ j, j < n → w'.cell? ⟨b, off + j * 2, none⟩ = some (.int .i64 (l.getD j (0, 0)).1) ∧ w'.cell? ⟨b, off + j * 2 + 1, none⟩ = some (.int .i64 (l.getD j (0, 0)).2)) (h2 : ∀ w', Below w.heap.size w w' → ∀ j, j < n → w'.cell? ⟨b2, off2 + j * 2, none⟩ = some (.int .i64 (l'.getD j (0, 0)).1) ∧ w'.cell? ⟨b2, off2 + j * 2 + 1, none⟩ = some (.int .i64 (l'.getD j (0, 0)).2)) :
    Calls Tryz.prog 46 #[.slice (some ⟨b, off, none⟩) n ca, .slice (some ⟨b2, off2, none⟩) n cb] w fun e w' => ∃ D : Bool, e = .returned (.bool D) ∧ (D = true ↔ l = l') ∧ Below w.heap.size w w' := by
  unfold maxLen at hm hm2
  have H1 := Lib.hid h1
  have H2 := Lib.hid h2
  have HL := Lib.hid hl
  have HL' := Lib.hid hl'
  have h0i : (0 : Int) < (n : Int) := by omega
  clear h1 h2 hl hl'
  go_enter Tryz.func46, Tryz.ntmps46
  go_wp2
  go_loopw [5] (fun si wr => ∃ (k : Nat), k ≤ n ∧ si = .int .i64 (k : Int) ∧ Hid (∀ j, j < k → l.getD j (0, 0) = l'.getD j (0, 0)) ∧ Hid (Below w.heap.size w wr)) (fun si _ => n - (intOf si).toNat)
  case atStart => exact ⟨0, by omega, rfl, Lib.hid (fun j hj => absurd hj (by omega)), Lib.hid (Below.refl _ _)⟩
  case round =>
    obtain ⟨k, hk, rfl, HE, HW⟩ := hrel
    by_cases hlt : k < n
    · obtain ⟨c0, c1⟩ := H1.out wr HW.out k hlt
      obtain ⟨e0, e1⟩ := H2.out wr HW.out k hlt
      obtain ⟨a, ha⟩ : ∃ a, l.getD k (0, 0) = a := ⟨_, rfl⟩
      obtain ⟨d, hd⟩ : ∃ d, l'.getD k (0, 0) = d := ⟨_, rfl⟩
      rw [ha] at c0 c1
      rw [hd] at e0 e1
      have HA := Lib.hid ha
      have HD := Lib.hid hd
      have i1 : (0 : Int) ≤ (k : Int) := by omega
      have i2 : (k : Int) < (n : Int) := by omega
      clear ha hd
      by_cases hne : a = d
      · subst hne
        have HE2 : Hid (∀ j, j < k + 1 → l.getD j (0, 0) = l'.getD j (0, 0)) := Lib.hid (fun j hj => by
          rcases Nat.lt_or_ge j k with h | h
          · exact HE.out j h
          · obtain rfl : j = k := by omega
            exact HA.out.trans HD.out.symm)
        go_upto_region 6 with fail
        go_quiet (fail)
        have HW2 := Lib.hid (past HW.out (belowN wr nq))
        clear c0 c1 e0 e1
        generalize wr.drewN nq = wz at *
        go_wp2
        go_roundw
        case rel => exact ⟨k + 1, by omega, by go_num, HE2, HW2⟩
        case measure => simp [intOf]; omega
      · have hN := sm_neq hne
        have HN : Hid (l ≠ l') := Lib.hid (fun e => hne (by rw [← HA.out, ← HD.out, e]))
        clear hne
        go_upto_region 6 with fail
        go_quiet (fail)
        have HW2 := Lib.hid (past HW.out (belowN wr nq))
        clear c0 c1 e0 e1 hN
        generalize wr.drewN nq = wz at *
        go_wp2
        (try rw [Exit.noGoto_ret])
        go_ret
        exact ⟨false, rfl, ⟨(fun h => by cases h), fun h => absurd h HN.out⟩, HW2.out⟩
    · obtain rfl : k = n := by omega
      have HEQ : Hid (l = l') := Lib.hid (rows_eq (x := ((0, 0) : Int × Int)) HL.out HL'.out HE.out)
      go_wp2
      (try rw [Exit.noGoto_ret])
      go_ret
      exact ⟨true, rfl, ⟨fun _ => HEQ.out, fun _ => rfl⟩, HW.out⟩

theorem sameS_none (A B : Option Addr) (ca cb : Nat) (w : World) : Calls Tryz.prog 46 #[.slice A 0 ca, .slice B 0 cb] w fun e w' => e = .returned (.bool true) ∧ Below w.heap.size w w' := by
  go_enter Tryz.func46, Tryz.ntmps46
  go_wp2
  refine wp_loop_rounds 1 ?_
  rw [rounds_succ]
  go_wp2
  (try rw [Exit.noGoto_ret])
  go_ret
  exact ⟨rfl, Below.refl _ _⟩
theorem sameS_len (A B : Option Addr) (n m ca cb : Nat) (w : World) (h : n ≠ m) : Calls Tryz.prog 46 #[.slice A n ca, .slice B m cb] w fun e w' => e = .returned (.bool false) ∧ Below w.heap.size w w' := by
  have i1 : ((n : Int) != (m : Int)) = true := by simp; omega
  have i2 : ¬ (n : Int) = (m : Int) := by omega
  go_enter Tryz.func46, Tryz.ntmps46
  go_wp2
  (try rw [Exit.noGoto_ret])
  go_ret
  exact ⟨rfl, Below.refl _ _⟩
theorem sameS_any {A B : Option Addr} {n m ca cb : Nat} {l l' : List (Int × Int)} {w : World} (h1 : Row w A ca l) (hn : l.length = n) (h2 : Row w B cb l') (hm : l'.length = m) :
    Calls Tryz.prog 46 #[.slice A n ca, .slice B m cb] w fun e w' => ∃ D : Bool, e = .returned (.bool D) ∧ (D = true ↔ l = l') ∧ Below w.heap.size w w' := by
  by_cases hnm : n = m
  · subst hnm
    by_cases h0 : 0 < n
    · obtain ⟨b, off, e1, _⟩ := h1.samps.2 (by omega)
      obtain ⟨b2, off2, e2, _⟩ := h2.samps.2 (by omega)
      subst e1 e2
      refine sameS_in b off b2 off2 n ca cb l l' w hn hm (by have := h1.le; omega) (by have := h2.le; omega) h1.max h2.max h0 (fun w' hb j hj => ?_) (fun w' hb j hj => ?_)
      · obtain ⟨b', o', e, hcc⟩ := (h1.samps.below hb).2 (by omega)
        injection e with e
        injection e with e1 e2
        subst e1 e2
        exact hcc j (by omega)
      · obtain ⟨b', o', e, hcc⟩ := (h2.samps.below hb).2 (by omega)
        injection e with e
        injection e with e1 e2
        subst e1 e2
        exact hcc j (by omega)
    · obtain rfl : n = 0 := by omega
      refine (sameS_none A B ca cb w).mono ?_
      rintro e w' ⟨rfl, hb⟩
      exact ⟨true, rfl, ⟨fun _ => by rw [List.length_eq_zero_iff.1 hn, List.length_eq_zero_iff.1 hm], fun _ => rfl⟩, hb⟩
  · refine (sameS_len A B n m ca cb w hnm).mono ?_
    rintro e w' ⟨rfl, hb⟩
    exact ⟨false, rfl, ⟨(fun h => by cases h), fun h => absurd (by rw [← hn, ← hm, h]) hnm⟩, hb⟩
end Go.Proofs.YtepancmkopifpaaGreatDoor
set_option maxRecDepth 100000
namespace Go.Proofs.YtepancmkopifpaaGreatDoor
open Go.RowKit
attribute [local go_sem ↓] Go.wp_at_zero Go.wp_at_succ
set_option linter.unusedVariables false


set_option maxHeartbeats 1000000 in
theorem eqlA_in (b off b2 off2 n ca cb : Nat) (l l' : List Ag) (w : World) (hl : l.length = n) (hl' : l'.length = n) (hc : n ≤ ca) (hc2 : n ≤ cb) (hm : ca ≤ maxLen) (hm2 : cb ≤ maxLen) (h0 : 0 < n)
    (h1 : ∀ w', Below w.heap.size w w' → ∀ j, j < n → HoldsAt w' b (off + j * 7) (agAt l j)) (h2 : ∀ w', Below w.heap.size w w' → ∀ j, j < n → HoldsAt w' b2 (off2 + j * 7) (agAt l' j)) :
    Calls Tryz.prog 51 #[.slice (some ⟨b, off, none⟩) n ca, .slice (some ⟨b2, off2, none⟩) n cb] w fun e w' => ∃ D : Bool, e = .returned (.bool D) ∧ (D = true ↔ l = l') ∧ Below w.heap.size w w' := by
  unfold maxLen at hm hm2
  have H1 := Lib.hid h1
  have H2 := Lib.hid h2
  have HL := Lib.hid hl
  have HL' := Lib.hid hl'
  have h0i : (0 : Int) < (n : Int) := by omega
  clear h1 h2 hl hl'
  go_enter Tryz.func51, Tryz.ntmps51
  go_wp2
  go_loopw [13] (fun si wr => ∃ (k : Nat), k ≤ n ∧ si = .int .i64 (k : Int) ∧ Hid (∀ j, j < k → agAt l j = agAt l' j) ∧ Hid (Below w.heap.size w wr)) (fun si _ => n - (intOf si).toNat)
  case atStart => exact ⟨0, by omega, rfl, Lib.hid (fun j hj => absurd hj (by omega)), Lib.hid (Below.refl _ _)⟩
  case round =>
    obtain ⟨k, hk, rfl, HE, HW⟩ := hrel
    by_cases hlt : k < n
    · obtain ⟨c0, c1, c2, c3, c4, c5, c6⟩ := H1.out wr HW.out k hlt
      obtain ⟨e0, e1, e2, e3, e4, e5, e6⟩ := H2.out wr HW.out k hlt
      obtain ⟨a, ha⟩ : ∃ a, agAt l k = a := ⟨_, rfl⟩
      obtain ⟨d, hd⟩ : ∃ d, agAt l' k = d := ⟨_, rfl⟩
      rw [ha] at c0 c1 c2 c3 c4 c5 c6
      rw [hd] at e0 e1 e2 e3 e4 e5 e6
      have HA := Lib.hid ha
      have HD := Lib.hid hd
      have i1 : (0 : Int) ≤ (k : Int) := by omega
      have i2 : (k : Int) < (n : Int) := by omega
      clear ha hd
      by_cases hne : a = d
      · subst hne
        have HE2 : Hid (∀ j, j < k + 1 → agAt l j = agAt l' j) := Lib.hid (fun j hj => by
          rcases Nat.lt_or_ge j k with h | h
          · exact HE.out j h
          · obtain rfl : j = k := by omega
            exact HA.out.trans HD.out.symm)
        go_upto_region 6 with fail
        go_quiet (fail)
        have HW2 := Lib.hid (past HW.out (belowN wr nq))
        clear c0 c1 c2 c3 c4 c5 c6 e0 e1 e2 e3 e4 e5 e6
        generalize wr.drewN nq = wz at *
        go_wp2
        go_roundw
        case rel => exact ⟨k + 1, by omega, by go_num, HE2, HW2⟩
        case measure => simp [intOf]; omega
      · have hN := ag_neq hne
        have HN : Hid (l ≠ l') := Lib.hid (fun e => hne (by rw [← HA.out, ← HD.out, e]))
        clear hne
        go_upto_region 6 with fail
        go_quiet (fail)
        have HW2 := Lib.hid (past HW.out (belowN wr nq))
        clear c0 c1 c2 c3 c4 c5 c6 e0 e1 e2 e3 e4 e5 e6 hN
        generalize wr.drewN nq = wz at *
        go_wp2
        (try rw [Exit.noGoto_ret])
        go_ret
        exact ⟨false, rfl, ⟨(fun h => by cases h), fun h => absurd h HN.out⟩, HW2.out⟩
    · obtain rfl : k = n := by omega
      have HEQ : Hid (l = l') := Lib.hid (rows_eq (x := Ag.zero) HL.out HL'.out HE.out)
      go_wp2
      (try rw [Exit.noGoto_ret])
      go_ret
      exact ⟨true, rfl, ⟨fun _ => HEQ.out, fun _ => rfl⟩, HW.out⟩

theorem eqlA_none (A B : Option Addr) (ca cb : Nat) (w : World) : Calls Tryz.prog 51 #[.slice A 0 ca, .slice B 0 cb] w fun e w' => e = .returned (.bool true) ∧ Below w.heap.size w w' := by
  go_enter Tryz.func51, Tryz.ntmps51
  go_wp2
  refine wp_loop_rounds 1 ?_
  rw [rounds_succ]
  go_wp2
  (try rw [Exit.noGoto_ret])
  go_ret
  exact ⟨rfl, Below.refl _ _⟩
theorem eqlA_len (A B : Option Addr) (n m ca cb : Nat) (w : World) (h : n ≠ m) : Calls Tryz.prog 51 #[.slice A n ca, .slice B m cb] w fun e w' => e = .returned (.bool false) ∧ Below w.heap.size w w' := by
  have i1 : ((n : Int) != (m : Int)) = true := by simp; omega
  have i2 : ¬ (n : Int) = (m : Int) := by omega
  go_enter Tryz.func51, Tryz.ntmps51
  go_wp2
  (try rw [Exit.noGoto_ret])
  go_ret
  exact ⟨rfl, Below.refl _ _⟩
theorem eqlA_any {A B : Option Addr} {n m ca cb : Nat} {l l' : List Ag} {w : World} (h1 : RowOf w A n ca l) (h2 : RowOf w B m cb l') :
    Calls Tryz.prog 51 #[.slice A n ca, .slice B m cb] w fun e w' => ∃ D : Bool, e = .returned (.bool D) ∧ (D = true ↔ l = l') ∧ Below w.heap.size w w' := by
  have hl1 := h1.1
  have hl2 := h2.1
  by_cases hnm : n = m
  · subst hnm
    by_cases h0 : 0 < n
    · obtain ⟨b, off, rfl, hc1⟩ := h1.form h0
      obtain ⟨b2, off2, rfl, hc2⟩ := h2.form h0
      exact eqlA_in b off b2 off2 n ca cb l l' w hl1 hl2 h1.2.2.1 h2.2.2.1 h1.2.2.2.1 h2.2.2.2.1 h0 hc1 hc2
    · obtain rfl : n = 0 := by omega
      refine (eqlA_none A B ca cb w).mono ?_
      rintro e w' ⟨rfl, hb⟩
      exact ⟨true, rfl, ⟨fun _ => by rw [List.length_eq_zero_iff.1 hl1, List.length_eq_zero_iff.1 hl2], fun _ => rfl⟩, hb⟩
  · refine (eqlA_len A B n m ca cb w hnm).mono ?_
    rintro e w' ⟨rfl, hb⟩
    exact ⟨false, rfl, ⟨(fun h => by cases h), fun h => absurd (by rw [← hl1, ← hl2, h]) hnm⟩, hb⟩

set_option maxHeartbeats 1000000 in
theorem eqlS_in (b off b2 off2 n ca cb : Nat) (l l' : List (Int × Int)) (w : World) (hl : l.length = n) (hl' : l'.length = n) (hc : n ≤ ca) (hc2 : n ≤ cb) (hm : ca ≤ maxLen) (hm2 : cb ≤ maxLen) (h0 : 0 < n)
    (h1 : ∀ w', Below w.heap.size w w' → ∀ j, j < n → w'.cell? ⟨b, off + j * 2, none⟩ = some (.int .i64 (l.getD j (0, 0)).1) ∧ w'.cell? ⟨b, off + j * 2 + 1, none⟩ = some (.int .i64 (l.getD j (0, 0)).2)) (h2 : ∀ w', Below w.heap.size w w' → ∀ j, j < n → w'.cell? ⟨b2, off2 + j * 2, none⟩ = some (.int .i64 (l'.getD j (0, 0)).1) ∧ w'.cell? ⟨b2, off2 + j * 2 + 1, none⟩ = some (.int .i64 (l'.getD j (0, 0)).2)) :
    Calls Tryz.prog 50 #[.slice (some ⟨b, off, none⟩) n ca, .slice (some ⟨b2, off2, none⟩) n cb] w fun e w' => ∃ D : Bool, e = .returned (.bool D) ∧ (D = true ↔ l = l') ∧ Below w.heap.size w w' := by
  unfold maxLen at hm hm2
  have H1 := Lib.hid h1
  have H2 := Lib.hid h2
  have HL := Lib.hid hl
  have HL' := Lib.hid hl'
  have h0i : (0 : Int) < (n : Int) := by omega
  clear h1 h2 hl hl'
  go_enter Tryz.func50, Tryz.ntmps50
  go_wp2
  go_loopw [13] (fun si wr => ∃ (k : Nat), k ≤ n ∧ si = .int .i64 (k : Int) ∧ Hid (∀ j, j < k → l.getD j (0, 0) = l'.getD j (0, 0)) ∧ Hid (Below w.heap.size w wr)) (fun si _ => n - (intOf si).toNat)
  case atStart => exact ⟨0, by omega, rfl, Lib.hid (fun j hj => absurd hj (by omega)), Lib.hid (Below.refl _ _)⟩
  case round =>
    obtain ⟨k, hk, rfl, HE, HW⟩ := hrel
    by_cases hlt : k < n
    · obtain ⟨c0, c1⟩ := H1.out wr HW.out k hlt
      obtain ⟨e0, e1⟩ := H2.out wr HW.out k hlt
      obtain ⟨a, ha⟩ : ∃ a, l.getD k (0, 0) = a := ⟨_, rfl⟩
      obtain ⟨d, hd⟩ : ∃ d, l'.getD k (0, 0) = d := ⟨_, rfl⟩
      rw [ha] at c0 c1
      rw [hd] at e0 e1
      have HA := Lib.hid ha
      have HD := Lib.hid hd
      have i1 : (0 : Int) ≤ (k : Int) := by omega
      have i2 : (k : Int) < (n : Int) := by omega
      clear ha hd
      by_cases hne : a = d
      · subst hne
        have HE2 : Hid (∀ j, j < k + 1 → l.getD j (0, 0) = l'.getD j (0, 0)) := Lib.hid (fun j hj => by
          rcases Nat.lt_or_ge j k with h | h
          · exact HE.out j h
          · obtain rfl : j = k := by omega
            exact HA.out.trans HD.out.symm)
        go_upto_region 6 with fail
        go_quiet (fail)
        have HW2 := Lib.hid (past HW.out (belowN wr nq))
        clear c0 c1 e0 e1
        generalize wr.drewN nq = wz at *
        go_wp2
        go_roundw
        case rel => exact ⟨k + 1, by omega, by go_num, HE2, HW2⟩
        case measure => simp [intOf]; omega
      · have hN := sm_neq hne
        have HN : Hid (l ≠ l') := Lib.hid (fun e => hne (by rw [← HA.out, ← HD.out, e]))
        clear hne
        go_upto_region 6 with fail
        go_quiet (fail)
        have HW2 := Lib.hid (past HW.out (belowN wr nq))
        clear c0 c1 e0 e1 hN
        generalize wr.drewN nq = wz at *
        go_wp2
        (try rw [Exit.noGoto_ret])
        go_ret
        exact ⟨false, rfl, ⟨(fun h => by cases h), fun h => absurd h HN.out⟩, HW2.out⟩
    · obtain rfl : k = n := by omega
      have HEQ : Hid (l = l') := Lib.hid (rows_eq (x := ((0, 0) : Int × Int)) HL.out HL'.out HE.out)
      go_wp2
      (try rw [Exit.noGoto_ret])
      go_ret
      exact ⟨true, rfl, ⟨fun _ => HEQ.out, fun _ => rfl⟩, HW.out⟩

theorem eqlS_none (A B : Option Addr) (ca cb : Nat) (w : World) : Calls Tryz.prog 50 #[.slice A 0 ca, .slice B 0 cb] w fun e w' => e = .returned (.bool true) ∧ Below w.heap.size w w' := by
  go_enter Tryz.func50, Tryz.ntmps50
  go_wp2
  refine wp_loop_rounds 1 ?_
  rw [rounds_succ]
  go_wp2
  (try rw [Exit.noGoto_ret])
  go_ret
  exact ⟨rfl, Below.refl _ _⟩
theorem eqlS_len (A B : Option Addr) (n m ca cb : Nat) (w : World) (h : n ≠ m) : Calls Tryz.prog 50 #[.slice A n ca, .slice B m cb] w fun e w' => e = .returned (.bool false) ∧ Below w.heap.size w w' := by
  have i1 : ((n : Int) != (m : Int)) = true := by simp; omega
  have i2 : ¬ (n : Int) = (m : Int) := by omega
  go_enter Tryz.func50, Tryz.ntmps50
  go_wp2
  (try rw [Exit.noGoto_ret])
  go_ret
  exact ⟨rfl, Below.refl _ _⟩
theorem eqlS_any {A B : Option Addr} {n m ca cb : Nat} {l l' : List (Int × Int)} {w : World} (h1 : Row w A ca l) (hn : l.length = n) (h2 : Row w B cb l') (hm : l'.length = m) :
    Calls Tryz.prog 50 #[.slice A n ca, .slice B m cb] w fun e w' => ∃ D : Bool, e = .returned (.bool D) ∧ (D = true ↔ l = l') ∧ Below w.heap.size w w' := by
  by_cases hnm : n = m
  · subst hnm
    by_cases h0 : 0 < n
    · obtain ⟨b, off, e1, _⟩ := h1.samps.2 (by omega)
      obtain ⟨b2, off2, e2, _⟩ := h2.samps.2 (by omega)
      subst e1 e2
      refine eqlS_in b off b2 off2 n ca cb l l' w hn hm (by have := h1.le; omega) (by have := h2.le; omega) h1.max h2.max h0 (fun w' hb j hj => ?_) (fun w' hb j hj => ?_)
      · obtain ⟨b', o', e, hcc⟩ := (h1.samps.below hb).2 (by omega)
        injection e with e
        injection e with e1 e2
        subst e1 e2
        exact hcc j (by omega)
      · obtain ⟨b', o', e, hcc⟩ := (h2.samps.below hb).2 (by omega)
        injection e with e
        injection e with e1 e2
        subst e1 e2
        exact hcc j (by omega)
    · obtain rfl : n = 0 := by omega
      refine (eqlS_none A B ca cb w).mono ?_
      rintro e w' ⟨rfl, hb⟩
      exact ⟨true, rfl, ⟨fun _ => by rw [List.length_eq_zero_iff.1 hn, List.length_eq_zero_iff.1 hm], fun _ => rfl⟩, hb⟩
  · refine (eqlS_len A B n m ca cb w hnm).mono ?_
    rintro e w' ⟨rfl, hb⟩
    exact ⟨false, rfl, ⟨(fun h => by cases h), fun h => absurd (by rw [← hn, ← hm, h]) hnm⟩, hb⟩
end Go.Proofs.YtepancmkopifpaaGreatDoor
set_option maxRecDepth 100000
namespace Go.Proofs.YtepancmkopifpaaGreatDoor
open Go.RowKit
attribute [local go_sem ↓] Go.wp_at_zero Go.wp_at_succ
set_option linter.unusedVariables false

set_option maxHeartbeats 1000000 in
theorem sameSeg_ne {i k f t i' k' f' t' : Int} {A A' B B' : Option Addr} {n ca m cb n' ca' m' cb' : Nat} {w : World} (h : ¬ (i = i' ∧ k = k' ∧ f = f' ∧ t = t')) :
    Calls Tryz.prog 16 #[.agg #[.int .i64 i, .int .i64 k, .int .i64 f, .int .i64 t, .slice A n ca, .slice B m cb], .agg #[.int .i64 i', .int .i64 k', .int .i64 f', .int .i64 t', .slice A' n' ca', .slice B' m' cb']] w fun e w' => e = .returned (.bool false) ∧ Below w.heap.size w w' := by
  have HB : Hid (∀ o o', Below w.heap.size w ((w.alloc o).alloc o')) := Lib.hid (fun o o' => past (below_box _ _) (below_box _ _))
  by_cases h0 : i = i'
  case neg =>
    have e0 : (i == i') = false := by simp [h0]
    clear h h0
    go_enter Tryz.func16, Tryz.ntmps16
    go_wp2
    go_ret
    exact ⟨rfl, HB.out _ _⟩
  by_cases h1 : k = k'
  case neg =>
    have e0 : (i == i') = true := by simp [h0]
    have e1 : (k == k') = false := by simp [h1]
    clear h h0 h1
    go_enter Tryz.func16, Tryz.ntmps16
    go_wp2
    go_ret
    exact ⟨rfl, HB.out _ _⟩
  by_cases h2 : f = f'
  case neg =>
    have e0 : (i == i') = true := by simp [h0]
    have e1 : (k == k') = true := by simp [h1]
    have e2 : (f == f') = false := by simp [h2]
    clear h h0 h1 h2
    go_enter Tryz.func16, Tryz.ntmps16
    go_wp2
    go_ret
    exact ⟨rfl, HB.out _ _⟩
  by_cases h3 : t = t'
  case neg =>
    have e0 : (i == i') = true := by simp [h0]
    have e1 : (k == k') = true := by simp [h1]
    have e2 : (f == f') = true := by simp [h2]
    have e3 : (t == t') = false := by simp [h3]
    clear h h0 h1 h2 h3
    go_enter Tryz.func16, Tryz.ntmps16
    go_wp2
    go_ret
    exact ⟨rfl, HB.out _ _⟩
  exact absurd ⟨h0, h1, h2, h3⟩ h

set_option maxHeartbeats 1000000 in
theorem sameSeg_any {i k f t i' k' f' t' : Int} {sm sm' : List (Int × Int)} {ag ag' : List Ag} {A A' B B' : Option Addr} {n ca m cb n' ca' m' cb' : Nat} {w : World} (h1 : SegAt w ⟨i, k, f, t, sm, ag⟩ A n ca B m cb) (h2 : SegAt w ⟨i', k', f', t', sm', ag'⟩ A' n' ca' B' m' cb') :
    Calls Tryz.prog 16 #[.agg #[.int .i64 i, .int .i64 k, .int .i64 f, .int .i64 t, .slice A n ca, .slice B m cb], .agg #[.int .i64 i', .int .i64 k', .int .i64 f', .int .i64 t', .slice A' n' ca', .slice B' m' cb']] w fun e w' => ∃ D : Bool, e = .returned (.bool D) ∧ (D = true ↔ (⟨i, k, f, t, sm, ag⟩ : Sg) = ⟨i', k', f', t', sm', ag'⟩) ∧ Below w.heap.size w w' := by
  by_cases he : i = i' ∧ k = k' ∧ f = f' ∧ t = t'
  case neg =>
    refine (sameSeg_ne he).mono ?_
    rintro e w' ⟨rfl, hb⟩
    refine ⟨false, rfl, ⟨(fun h => by cases h), fun h => ?_⟩, hb⟩
    injection h with q1 q2 q3 q4 q5 q6
    exact absurd ⟨q1, q2, q3, q4⟩ he
  obtain ⟨rfl, rfl, rfl, rfl⟩ := he
  have m1 := fun u (hu : Below w.heap.size w u) => sameS_any (h1.sm.below hu) h1.sn (h2.sm.below hu) h2.sn
  have m2 := fun u (hu : Below w.heap.size w u) => sameA_any (h1.below hu).ag (h2.below hu).ag
  simp only at m1 m2
  have M1 := Lib.hid m1
  have M2 := Lib.hid m2
  clear h1 h2 m1 m2
  go_enter Tryz.func16, Tryz.ntmps16
  go_wp2_with fail
  refine (M1.out _ (past (below_box _ _) (below_box _ _))).mono ?_
  rintro e w2 ⟨D1, rfl, hd1, hb2⟩
  have HB2 := Lib.hid (past (past (below_box _ _) (below_box _ _)) hb2)
  have HD1 := Lib.hid hd1
  have c0 := ((SgV.new w i k f t (.slice A n ca) (.slice B m cb) 25).below (below_box _ (.cells #[.int .i64 i, .int .i64 k, .int .i64 f, .int .i64 t, .slice A' n' ca', .slice B' m' cb'] 25))).below hb2
  have c1 := (SgV.new (w.alloc (.cells #[.int .i64 i, .int .i64 k, .int .i64 f, .int .i64 t, .slice A n ca, .slice B m cb] 25)) i k f t (.slice A' n' ca') (.slice B' m' cb') 25).below hb2
  have d0 := c0.c5
  have d1 := c1.c5
  have e1 : (w.alloc (.cells #[.int .i64 i, .int .i64 k, .int .i64 f, .int .i64 t, .slice A n ca, .slice B m cb] 25)).heap.size = w.heap.size + 1 := by simp
  rw [e1] at d1
  clear c0 c1 hb2 e1 hd1
  cases D1 with
  | false =>
    go_wp2
    go_ret
    refine ⟨false, rfl, ⟨(fun h => by cases h), fun h => ?_⟩, HB2.out⟩
    injection h with q1 q2 q3 q4 q5 q6
    exact HD1.out.2 q5
  | true =>
    go_wp2_with fail
    refine (M2.out _ HB2.out).mono ?_
    rintro e w3 ⟨D2, rfl, hd2, hb3⟩
    have HB3 := Lib.hid (past HB2.out hb3)
    have HD2 := Lib.hid hd2
    clear hb3 hd2
    go_wp2
    go_ret
    refine ⟨D2, rfl, ⟨fun h => ?_, fun h => ?_⟩, HB3.out⟩
    · rw [HD1.out.1 (by first | rfl | trivial), HD2.out.1 h]
    · injection h with q1 q2 q3 q4 q5 q6
      exact HD2.out.2 q6

set_option maxHeartbeats 1000000 in
theorem sameG_any {i k f t i' k' f' t' : Int} {sm sm' : List (Int × Int)} {ag ag' : List Ag} {A A' B B' : Option Addr} {n ca m cb n' ca' m' cb' : Nat} {w : World} (h1 : SegAt w ⟨i, k, f, t, sm, ag⟩ A n ca B m cb) (h2 : SegAt w ⟨i', k', f', t', sm', ag'⟩ A' n' ca' B' m' cb') :
    Calls Tryz.prog 19 #[.agg #[.int .i64 i, .int .i64 k, .int .i64 f, .int .i64 t, .slice A n ca, .slice B m cb], .agg #[.int .i64 i', .int .i64 k', .int .i64 f', .int .i64 t', .slice A' n' ca', .slice B' m' cb']] w fun e w' => ∃ D : Bool, e = .returned (.bool D) ∧ (D = true ↔ (⟨i, k, f, t, sm, ag⟩ : Sg) = ⟨i', k', f', t', sm', ag'⟩) ∧ Below w.heap.size w w' := by
  by_cases he : i = i' ∧ k = k' ∧ f = f' ∧ t = t'
  case neg =>
    refine (sameG_ne he).mono ?_
    rintro e w' ⟨rfl, hb⟩
    refine ⟨false, rfl, ⟨(fun h => by cases h), fun h => ?_⟩, hb⟩
    injection h with q1 q2 q3 q4 q5 q6
    exact absurd ⟨q1, q2, q3, q4⟩ he
  obtain ⟨rfl, rfl, rfl, rfl⟩ := he
  have m1 := fun u (hu : Below w.heap.size w u) => eqlS_any (h1.sm.below hu) h1.sn (h2.sm.below hu) h2.sn
  have m2 := fun u (hu : Below w.heap.size w u) => eqlA_any (h1.below hu).ag (h2.below hu).ag
  simp only at m1 m2
  have M1 := Lib.hid m1
  have M2 := Lib.hid m2
  clear h1 h2 m1 m2
  go_enter Tryz.func19, Tryz.ntmps19
  go_wp2_with fail
  refine (M1.out _ (past (below_box _ _) (below_box _ _))).mono ?_
  rintro e w2 ⟨D1, rfl, hd1, hb2⟩
  have HB2 := Lib.hid (past (past (below_box _ _) (below_box _ _)) hb2)
  have HD1 := Lib.hid hd1
  have c0 := ((SgV.new w i k f t (.slice A n ca) (.slice B m cb) 25).below (below_box _ (.cells #[.int .i64 i, .int .i64 k, .int .i64 f, .int .i64 t, .slice A' n' ca', .slice B' m' cb'] 25))).below hb2
  have c1 := (SgV.new (w.alloc (.cells #[.int .i64 i, .int .i64 k, .int .i64 f, .int .i64 t, .slice A n ca, .slice B m cb] 25)) i k f t (.slice A' n' ca') (.slice B' m' cb') 25).below hb2
  have d0 := c0.c5
  have d1 := c1.c5
  have e1 : (w.alloc (.cells #[.int .i64 i, .int .i64 k, .int .i64 f, .int .i64 t, .slice A n ca, .slice B m cb] 25)).heap.size = w.heap.size + 1 := by simp
  rw [e1] at d1
  clear c0 c1 hb2 e1 hd1
  cases D1 with
  | false =>
    go_wp2
    go_ret
    refine ⟨false, rfl, ⟨(fun h => by cases h), fun h => ?_⟩, HB2.out⟩
    injection h with q1 q2 q3 q4 q5 q6
    exact HD1.out.2 q5
  | true =>
    go_wp2_with fail
    refine (M2.out _ HB2.out).mono ?_
    rintro e w3 ⟨D2, rfl, hd2, hb3⟩
    have HB3 := Lib.hid (past HB2.out hb3)
    have HD2 := Lib.hid hd2
    clear hb3 hd2
    go_wp2
    go_ret
    refine ⟨D2, rfl, ⟨fun h => ?_, fun h => ?_⟩, HB3.out⟩
    · rw [HD1.out.1 (by first | rfl | trivial), HD2.out.1 h]
    · injection h with q1 q2 q3 q4 q5 q6
      exact HD2.out.2 q6
end Go.Proofs.YtepancmkopifpaaGreatDoor
set_option maxRecDepth 100000
namespace Go.Proofs.YtepancmkopifpaaGreatDoor
open Go.RowKit
attribute [local go_sem ↓] Go.wp_at_zero Go.wp_at_succ
set_option linter.unusedVariables false

/-- A segment and a code come back. -/
def SR (w : World) (R : Sg × Int) (e : Ending) (w' : World) : Prop :=
  ∃ A n ca B m cb, e = .returned (.tuple #[.agg #[.int .i64 R.1.id, .int .i64 R.1.tier, .int .i64 R.1.fr, .int .i64 R.1.tz, .slice A n ca, .slice B m cb], .int .i64 R.2]) ∧ SegAt w' R.1 A n ca B m cb ∧ Below w.heap.size w w'
theorem segAt_zero (w : World) : SegAt w Sg.zero none 0 0 none 0 0 :=
  ⟨Row.none w, rfl, rowOf_nil w, ⟨by unfold Sg.zero In64; simp, by unfold Sg.zero In64; simp, by unfold Sg.zero In64; simp, by unfold Sg.zero In64; simp, fun x hx => by simp [Sg.zero] at hx, fun x hx => by simp [Sg.zero] at hx⟩⟩
def readR2 (b : List Nat) : Sg × Int := match readS b with | some s => (s, 0) | none => (Sg.zero, 2)
def infR2 (b : List Nat) : (Int × Int × Int × Int × Int) × Int := match readS b with | some s => ((s.id, s.tier, s.fr, s.tz, ((more 1 (b.take (b.length - 4)) : Nat) : Int)), 0) | none => ((0, 0, 0, 0, 0), 2)
def IR (w : World) (R : (Int × Int × Int × Int × Int) × Int) (e : Ending) (w' : World) : Prop :=
  e = .returned (.tuple #[.agg #[.int .i64 R.1.1, .int .i64 R.1.2.1, .int .i64 R.1.2.2.1, .int .i64 R.1.2.2.2.1, .int .u32 R.1.2.2.2.2], .int .i64 R.2]) ∧ Below w.heap.size w w'
theorem get_sr {b : List Nat} {w w' : World} {e : Ending} (h : GetG w (readS b) e w') : SR w (readR2 b) e w' := by
  unfold GetG at h
  unfold readR2
  cases hr : readS b with
  | some s =>
    rw [hr] at h
    obtain ⟨⟨A, n, ca, B, m, cb, he, hs⟩, hb⟩ := h
    exact ⟨A, n, ca, B, m, cb, he, hs.at_, hb⟩
  | none =>
    rw [hr] at h
    obtain ⟨he, hb⟩ := h
    exact ⟨none, 0, 0, none, 0, 0, he, segAt_zero w', hb⟩
theorem getr_sr {b : List Nat} {w w' : World} {e : Ending} (h : GetR w (readS b) e w') : SR w (readR2 b) e w' := by
  unfold GetR at h
  unfold readR2
  cases hr : readS b with
  | some s =>
    rw [hr] at h
    obtain ⟨⟨A, n, ca, B, m, cb, he, hs⟩, hb⟩ := h
    exact ⟨A, n, ca, B, m, cb, he, hs, hb⟩
  | none =>
    rw [hr] at h
    obtain ⟨he, hb⟩ := h
    exact ⟨none, 0, 0, none, 0, 0, he, segAt_zero w', hb⟩
theorem info_ir {b : List Nat} {w w' : World} {e : Ending} (h : InfoG w b (readS b) e w') : IR w (infR2 b) e w' := by
  unfold InfoG at h
  unfold infR2
  cases hr : readS b with
  | some s =>
    rw [hr] at h
    exact h
  | none =>
    rw [hr] at h
    exact h
theorem roll_sr {l : List Sg} {id k : Int} {w w' : World} {e : Ending} (hid : In64 id) (hk : In64 k) (hl : ∀ s ∈ l, s.ok) (h : RollG w (rollS l id k) e w') : SR w (rollS l id k) e w' := by
  obtain ⟨B, m, cb, he, hr, hb⟩ := h
  have key : (rollS l id k).1.sm = [] ∧ In64 (rollS l id k).1.id ∧ In64 (rollS l id k).1.tier ∧ In64 (rollS l id k).1.fr ∧ In64 (rollS l id k).1.tz := by
    have z : In64 0 := by unfold In64; omega
    have zz : Sg.zero.sm = [] ∧ In64 Sg.zero.id ∧ In64 Sg.zero.tier ∧ In64 Sg.zero.fr ∧ In64 Sg.zero.tz := ⟨rfl, z, z, z, z⟩
    unfold rollS
    split
    · next hc =>
      have hh : l ≠ [] := fun e => by
        have := hc.2.2
        rw [e] at this
        exact this
      unfold rollEnd
      split
      · exact zz
      · split
        · exact zz
        · refine ⟨rfl, hid, hk, ?_, ?_⟩
          · cases l with
            | nil => exact absurd rfl hh
            | cons a r => exact (hl a (by simp)).2.2.1
          · have : l.getLastD Sg.zero ∈ l := by
              cases l with
              | nil => exact absurd rfl hh
              | cons a r => rw [List.getLastD_cons]; exact List.getLastD_mem_cons
            exact (hl _ this).2.2.2.1
    · exact zz
  refine ⟨none, 0, 0, B, m, cb, he, ⟨?_, by rw [key.1]; rfl, hr, ⟨key.2.1, key.2.2.1, key.2.2.2.1, key.2.2.2.2, ?_, hr.2.1.1⟩⟩, hb⟩
  · rw [key.1]; exact Row.none w'
  · rw [key.1]; intro x hx; simp at hx
theorem put_pr {i k f t : Int} {n m ca cb : Nat} {A B : Option Addr} {sm : List (Int × Int)} {ag : List Ag} {w : World} (h : SegAt w ⟨i, k, f, t, sm, ag⟩ A n ca B m cb) (hw : Wid w) :
    Calls Tryz.prog 6 #[.agg #[.int .i64 i, .int .i64 k, .int .i64 f, .int .i64 t, .slice A n ca, .slice B m cb]] w fun e w' => ∃ (V : Option Addr) (cap : Nat), e = .returned (.tuple #[.slice V (refPut ⟨i, k, f, t, sm, ag⟩).1.length cap, .int .i64 (refPut ⟨i, k, f, t, sm, ag⟩).2]) ∧ BRow w' V (refPut ⟨i, k, f, t, sm, ag⟩).1.length cap (refPut ⟨i, k, f, t, sm, ag⟩).1 ∧ Below w.heap.size w w' := by
  refine (putG_any h hw).mono ?_
  rintro e w' ⟨h1, hb⟩
  unfold refPut
  by_cases hm : Sg.may ⟨i, k, f, t, sm, ag⟩
  · rw [if_pos hm] at h1 ⊢
    by_cases hl : (Sg.bytes ⟨i, k, f, t, sm, ag⟩).length ≤ 4000
    · rw [if_pos hl] at h1 ⊢
      obtain ⟨v, he, ho⟩ := h1
      obtain ⟨V, cap, rfl, hr, _⟩ := brow_of_own ho (bytes_byte _)
      exact ⟨V, cap, he, hr, hb⟩
    · rw [if_neg hl] at h1 ⊢
      exact ⟨none, 0, h1, BRow.none w', hb⟩
  · rw [if_neg hm] at h1 ⊢
    exact ⟨none, 0, h1, BRow.none w', hb⟩
/-- SameSeg, Same of two that are told alike. -/
theorem calls_bool {P : Program} {f : FuncId} {args : Array Value} {w : World} {Q : Prop} {b : Bool} (hb : b = true ↔ Q) (h : Calls P f args w fun e w' => ∃ D : Bool, e = .returned (.bool D) ∧ (D = true ↔ Q) ∧ Below w.heap.size w w') :
    Calls P f args w fun e w' => e = .returned (.bool b) ∧ Below w.heap.size w w' := by
  refine h.mono ?_
  rintro e w' ⟨D, rfl, hD, hbl⟩
  have : D = b := by rw [Bool.eq_iff_iff, hD, hb]
  rw [this]
  exact ⟨rfl, hbl⟩
end Go.Proofs.YtepancmkopifpaaGreatDoor
