/-
  Same, SameInfo, Few: of any entries, of any rows; nothing that was there is written.
-/
import Derived.Test.YtdpoahjgdndnhaaDoorERead
import Derived.Test.YtdpoahjgdndnhaaDoorEFold
import Derived.Test.YtdpoahjgdndnhaaDoorEEqE
import Derived.BigQuiet
set_option maxRecDepth 100000
namespace Go.Proofs.YtdpoahjgdndnhaaDoor
open Go.RowKit
attribute [local go_sem ↓] Go.wp_at_zero Go.wp_at_succ
set_option linter.unusedVariables false

theorem inf_neq {a d : Inf} (h : a ≠ d) (w : World) : (binOp .neq 50 (.agg #[.int .i64 a.id, .int .i64 a.tr, .int .i64 a.fr, .int .i64 a.tl, .int .u32 a.sm]) (.agg #[.int .i64 d.id, .int .i64 d.tr, .int .i64 d.fr, .int .i64 d.tl, .int .u32 d.sm])).run Tryd.prog w = .ok (.bool true) w := by
  obtain ⟨a0, a1, a2, a3, a4⟩ := a
  obtain ⟨d0, d1, d2, d3, d4⟩ := d
  go_simp
  by_cases h0 : a0 = d0
  case neg => simp [h0]
  by_cases h1 : a1 = d1
  case neg => simp [h1]
  by_cases h2 : a2 = d2
  case neg => simp [h2]
  by_cases h3 : a3 = d3
  case neg => simp [h3]
  by_cases h4 : a4 = d4
  case neg => simp [h4]
  exfalso
  apply h
  rw [h0, h1, h2, h3, h4]

set_option maxHeartbeats 1000000 in
theorem eqlI_in (b off b2 off2 n ca cb : Nat) (l l' : List Inf) (w : World) (hl : l.length = n) (hl' : l'.length = n) (hc : n ≤ ca) (hc2 : n ≤ cb) (hm : ca ≤ maxLen) (hm2 : cb ≤ maxLen) (h0 : 0 < n)
    (h1 : ∀ w', Below w.heap.size w w' → ∀ j, j < n → (w'.cell? ⟨b, off + j * 5, none⟩ = some (.int .i64 (l.getD j Inf.zero).id) ∧ w'.cell? ⟨b, off + j * 5 + 1, none⟩ = some (.int .i64 (l.getD j Inf.zero).tr) ∧ w'.cell? ⟨b, off + j * 5 + 2, none⟩ = some (.int .i64 (l.getD j Inf.zero).fr) ∧ w'.cell? ⟨b, off + j * 5 + 3, none⟩ = some (.int .i64 (l.getD j Inf.zero).tl) ∧ w'.cell? ⟨b, off + j * 5 + 4, none⟩ = some (.int .u32 (l.getD j Inf.zero).sm))) (h2 : ∀ w', Below w.heap.size w w' → ∀ j, j < n → (w'.cell? ⟨b2, off2 + j * 5, none⟩ = some (.int .i64 (l'.getD j Inf.zero).id) ∧ w'.cell? ⟨b2, off2 + j * 5 + 1, none⟩ = some (.int .i64 (l'.getD j Inf.zero).tr) ∧ w'.cell? ⟨b2, off2 + j * 5 + 2, none⟩ = some (.int .i64 (l'.getD j Inf.zero).fr) ∧ w'.cell? ⟨b2, off2 + j * 5 + 3, none⟩ = some (.int .i64 (l'.getD j Inf.zero).tl) ∧ w'.cell? ⟨b2, off2 + j * 5 + 4, none⟩ = some (.int .u32 (l'.getD j Inf.zero).sm))) :
    Calls Tryd.prog 55 #[.slice (some ⟨b, off, none⟩) n ca, .slice (some ⟨b2, off2, none⟩) n cb] w fun e w' => ∃ D : Bool, e = .returned (.bool D) ∧ (D = true ↔ l = l') ∧ Below w.heap.size w w' := by
  unfold maxLen at hm hm2
  have H1 := Lib.hid h1
  have H2 := Lib.hid h2
  have HL := Lib.hid hl
  have HL' := Lib.hid hl'
  have h0i : (0 : Int) < (n : Int) := by omega
  clear h1 h2 hl hl'
  go_enter Tryd.func55, Tryd.ntmps55
  go_wp2
  go_loopw [13] (fun si wr => ∃ (k : Nat), k ≤ n ∧ si = .int .i64 (k : Int) ∧ Hid (∀ j, j < k → l.getD j Inf.zero = l'.getD j Inf.zero) ∧ Hid (Below w.heap.size w wr)) (fun si _ => n - (intOf si).toNat)
  case atStart => exact ⟨0, by omega, rfl, Lib.hid (fun j hj => absurd hj (by omega)), Lib.hid (Below.refl _ _)⟩
  case round =>
    obtain ⟨k, hk, rfl, HE, HW⟩ := hrel
    by_cases hlt : k < n
    · obtain ⟨c0, c1, c2, c3, c4⟩ := H1.out wr HW.out k hlt
      obtain ⟨e0, e1, e2, e3, e4⟩ := H2.out wr HW.out k hlt
      obtain ⟨a, ha⟩ : ∃ a, l.getD k Inf.zero = a := ⟨_, rfl⟩
      obtain ⟨d, hd⟩ : ∃ d, l'.getD k Inf.zero = d := ⟨_, rfl⟩
      rw [ha] at c0 c1 c2 c3 c4
      rw [hd] at e0 e1 e2 e3 e4
      have HA := Lib.hid ha
      have HD := Lib.hid hd
      have i1 : (0 : Int) ≤ (k : Int) := by omega
      have i2 : (k : Int) < (n : Int) := by omega
      clear ha hd
      by_cases hne : a = d
      · subst hne
        have HE2 : Hid (∀ j, j < k + 1 → l.getD j Inf.zero = l'.getD j Inf.zero) := Lib.hid (fun j hj => by
          rcases Nat.lt_or_ge j k with h | h
          · exact HE.out j h
          · obtain rfl : j = k := by omega
            exact HA.out.trans HD.out.symm)
        go_upto_region 6 with fail
        go_quiet (fail)
        have HW2 := Lib.hid (past HW.out (vbelowN wr nq))
        clear c0 c1 c2 c3 c4 e0 e1 e2 e3 e4
        generalize wr.drewN nq = wz at *
        go_wp2
        go_roundw
        case rel => exact ⟨k + 1, by omega, by go_num, HE2, HW2⟩
        case measure => simp [intOf]; omega
      · have hN := inf_neq hne
        have HN : Hid (l ≠ l') := Lib.hid (fun e => hne (by rw [← HA.out, ← HD.out, e]))
        clear hne
        go_upto_region 6 with fail
        go_quiet (fail)
        have HW2 := Lib.hid (past HW.out (vbelowN wr nq))
        clear c0 c1 c2 c3 c4 e0 e1 e2 e3 e4 hN
        generalize wr.drewN nq = wz at *
        go_wp2
        (try rw [Exit.noGoto_ret])
        go_ret
        exact ⟨false, rfl, ⟨(fun h => by cases h), fun h => absurd h HN.out⟩, HW2.out⟩
    · obtain rfl : k = n := by omega
      have HEQ : Hid (l = l') := Lib.hid (rows_eq (x := Inf.zero) HL.out HL'.out HE.out)
      go_wp2
      (try rw [Exit.noGoto_ret])
      go_ret
      exact ⟨true, rfl, ⟨fun _ => HEQ.out, fun _ => rfl⟩, HW.out⟩

theorem eqlI_none (A B : Option Addr) (ca cb : Nat) (w : World) : Calls Tryd.prog 55 #[.slice A 0 ca, .slice B 0 cb] w fun e w' => e = .returned (.bool true) ∧ Below w.heap.size w w' := by
  go_enter Tryd.func55, Tryd.ntmps55
  go_wp2
  refine wp_loop_rounds 1 ?_
  rw [rounds_succ]
  go_wp2
  (try rw [Exit.noGoto_ret])
  go_ret
  exact ⟨rfl, Below.refl _ _⟩
theorem eqlI_len (A B : Option Addr) (n m ca cb : Nat) (w : World) (h : n ≠ m) : Calls Tryd.prog 55 #[.slice A n ca, .slice B m cb] w fun e w' => e = .returned (.bool false) ∧ Below w.heap.size w w' := by
  have i1 : ((n : Int) != (m : Int)) = true := by simp; omega
  have i2 : ¬ (n : Int) = (m : Int) := by omega
  go_enter Tryd.func55, Tryd.ntmps55
  go_wp2
  (try rw [Exit.noGoto_ret])
  go_ret
  exact ⟨rfl, Below.refl _ _⟩
theorem eqlI_any {A B : Option Addr} {n m ca cb : Nat} {l l' : List Inf} {w : World} (h1 : InfRow w A n ca l) (h2 : InfRow w B m cb l') :
    Calls Tryd.prog 55 #[.slice A n ca, .slice B m cb] w fun e w' => ∃ D : Bool, e = .returned (.bool D) ∧ (D = true ↔ l = l') ∧ Below w.heap.size w w' := by
  have hl1 := h1.len
  have hl2 := h2.len
  by_cases hnm : n = m
  · subst hnm
    by_cases h0 : 0 < n
    · have hc1 := fun w' hb => (h1.below (w' := w') hb).cells h0
      have hc2 := fun w' hb => (h2.below (w' := w') hb).cells h0
      obtain ⟨b, off, rfl, _, _⟩ := h1.cells h0
      obtain ⟨b2, off2, rfl, _, _⟩ := h2.cells h0
      refine eqlI_in b off b2 off2 n ca cb l l' w hl1 hl2 h1.le h2.le h1.max h2.max h0 (fun w' hb j hj => ?_) (fun w' hb j hj => ?_)
      · obtain ⟨b', off', e, _, hc⟩ := hc1 w' hb
        injection e with e
        injection e with e1 e2
        subst e1 e2
        exact hc j hj
      · obtain ⟨b', off', e, _, hc⟩ := hc2 w' hb
        injection e with e
        injection e with e1 e2
        subst e1 e2
        exact hc j hj
    · obtain rfl : n = 0 := by omega
      refine (eqlI_none A B ca cb w).mono ?_
      rintro e w' ⟨rfl, hb⟩
      exact ⟨true, rfl, ⟨fun _ => by rw [List.length_eq_zero_iff.1 hl1, List.length_eq_zero_iff.1 hl2], fun _ => rfl⟩, hb⟩
  · refine (eqlI_len A B n m ca cb w hnm).mono ?_
    rintro e w' ⟨rfl, hb⟩
    exact ⟨false, rfl, ⟨(fun h => by cases h), fun h => absurd (by rw [← hl1, ← hl2, h]) hnm⟩, hb⟩
/-- entry.SameInfo, of any two rows. -/
theorem sameInfo_any {A B : Option Addr} {n m ca cb : Nat} {l l' : List Inf} {w : World} (h1 : InfRow w A n ca l) (h2 : InfRow w B m cb l') :
    Calls Tryd.prog 20 #[.slice A n ca, .slice B m cb] w fun e w' => e = .returned (.bool (decide (l = l'))) ∧ Below w.heap.size w w' := by
  have M := Lib.hid (eqlI_any h1 h2)
  clear h1 h2
  go_enter Tryd.func20, Tryd.ntmps20
  go_wp2_with fail
  refine M.out.mono ?_
  rintro en w2 ⟨D, rfl, hD, hb⟩
  have hd : D = decide (l = l') := by
    cases D with
    | true => exact (decide_eq_true (hD.1 rfl)).symm
    | false => exact (decide_eq_false (fun e => by have := hD.2 e; cases this)).symm
  have HB := Lib.hid hb
  subst hd
  clear hD hb M
  go_wp2
  go_ret
  exact ⟨rfl, HB.out⟩

end Go.Proofs.YtdpoahjgdndnhaaDoor
