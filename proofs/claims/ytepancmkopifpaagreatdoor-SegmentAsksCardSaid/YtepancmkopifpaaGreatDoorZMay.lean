/-
  SameAggs of two rows that read as the same aggregates: true; nothing that was there is written.
  SameSamples of two rows that read as the same samples: true; nothing that was there is written.
  MaySeg: whether a segment may be, of every segment; nothing that was there is written.
  Four: the four bytes of a sum, as a text.
-/
import Derived.Test.YtepancmkopifpaaGreatDoorTRow
import Derived.Test.YtepancmkopifpaaGreatDoorSPut
import Derived.Test.YtepancmkopifpaaGreatDoorRRise
import Derived.Deep.DeepCutAuto
import Derived.Test.YtepancmkopifpaaGreatDoorSByte
namespace Go.Proofs.YtepancmkopifpaaGreatDoor
open Go.RowKit
attribute [local go_sem ↓] Go.wp_at_zero Go.wp_at_succ
set_option linter.unusedVariables false

theorem RowOf.form {w : World} {A : Option Addr} {len cap : Nat} {l : List Ag} (h : RowOf w A len cap l) (h0 : 0 < len) : ∃ b off, A = some ⟨b, off, none⟩ ∧ ∀ w', Below w.heap.size w w' → ∀ j, j < len → HoldsAt w' b (off + j * 7) (agAt l j) := by
  obtain ⟨b, off, e, hc⟩ := h.2.1.2 (by rw [h.1]; exact h0)
  exact ⟨b, off, e, fun w' hb j hj => (hc j (by rw [h.1]; exact hj)).below hb⟩

set_option maxRecDepth 100000 in
set_option maxHeartbeats 1000000 in
theorem same_in (b off b2 off2 n ca cb : Nat) (l : List Ag) (w : World) (hc : n ≤ ca) (hc2 : n ≤ cb) (hm : ca ≤ maxLen) (hm2 : cb ≤ maxLen) (h0 : 0 < n)
    (h1 : ∀ w', Below w.heap.size w w' → ∀ j, j < n → HoldsAt w' b (off + j * 7) (agAt l j)) (h2 : ∀ w', Below w.heap.size w w' → ∀ j, j < n → HoldsAt w' b2 (off2 + j * 7) (agAt l j)) :
    Calls Tryz.prog 47 #[.slice (some ⟨b, off, none⟩) n ca, .slice (some ⟨b2, off2, none⟩) n cb] w fun e w' => e = .returned (.bool true) ∧ Below w.heap.size w w' := by
  unfold maxLen at hm hm2
  have H1 := Lib.hid h1
  have H2 := Lib.hid h2
  have h0i : (0 : Int) < (n : Int) := by omega
  clear h1 h2
  go_enter Tryz.func47, Tryz.ntmps47
  go_wp2
  go_loopw [5] (fun si wr => ∃ (k : Nat), k ≤ n ∧ si = .int .i64 (k : Int) ∧ Hid (Below w.heap.size w wr)) (fun si _ => n - (intOf si).toNat)
  case atStart => exact ⟨0, by omega, rfl, Lib.hid (Below.refl _ _)⟩
  case round =>
    obtain ⟨k, hk, rfl, HW⟩ := hrel
    by_cases hlt : k < n
    · obtain ⟨c0, c1, c2, c3, c4, c5, c6⟩ := H1.out wr HW.out k hlt
      obtain ⟨e0, e1, e2, e3, e4, e5, e6⟩ := H2.out wr HW.out k hlt
      generalize agAt l k = a at c0 c1 c2 c3 c4 c5 c6 e0 e1 e2 e3 e4 e5 e6
      have i1 : (0 : Int) ≤ (k : Int) := by omega
      have i2 : (k : Int) < (n : Int) := by omega
      go_upto_region 6 with fail
      go_quiet (fail)
      have HW2 := Lib.hid (past HW.out (belowN wr nq))
      clear c0 c1 c2 c3 c4 c5 c6 e0 e1 e2 e3 e4 e5 e6
      generalize wr.drewN nq = wz at *
      go_wp2
      go_roundw
      case rel => exact ⟨k + 1, by omega, by go_num, HW2⟩
      case measure => simp [intOf]; omega
    · go_wp2
      (try rw [Exit.noGoto_ret])
      go_ret
      exact ⟨rfl, HW.out⟩

set_option maxRecDepth 100000 in
theorem same_none (A B : Option Addr) (ca cb : Nat) (w : World) : Calls Tryz.prog 47 #[.slice A 0 ca, .slice B 0 cb] w fun e w' => e = .returned (.bool true) ∧ Below w.heap.size w w' := by
  go_enter Tryz.func47, Tryz.ntmps47
  go_wp2
  refine wp_loop_rounds 1 ?_
  rw [rounds_succ]
  go_wp2
  (try rw [Exit.noGoto_ret])
  go_ret
  exact ⟨rfl, Below.refl _ _⟩

theorem same_any {A B : Option Addr} {n ca cb : Nat} {l : List Ag} {w : World} (h1 : RowOf w A n ca l) (h2 : RowOf w B n cb l) :
    Calls Tryz.prog 47 #[.slice A n ca, .slice B n cb] w fun e w' => e = .returned (.bool true) ∧ Below w.heap.size w w' := by
  by_cases h0 : 0 < n
  · obtain ⟨b, off, rfl, hc1⟩ := h1.form h0
    obtain ⟨b2, off2, rfl, hc2⟩ := h2.form h0
    exact same_in b off b2 off2 n ca cb l w h1.2.2.1 h2.2.2.1 h1.2.2.2.1 h2.2.2.2.1 h0 hc1 hc2
  · obtain rfl : n = 0 := by omega
    exact same_none A B ca cb w
end Go.Proofs.YtepancmkopifpaaGreatDoor
namespace Go.Proofs.YtepancmkopifpaaGreatDoor
open Go.RowKit
attribute [local go_sem ↓] Go.wp_at_zero Go.wp_at_succ
set_option linter.unusedVariables false

set_option maxRecDepth 100000 in
set_option maxHeartbeats 1000000 in
theorem sames_in (b off b2 off2 n ca cb : Nat) (l : List (Int × Int)) (w : World) (hl : l.length = n) (hc : n ≤ ca) (hc2 : n ≤ cb) (hm : ca ≤ maxLen) (hm2 : cb ≤ maxLen) (h0 : 0 < n)
    (h1 : Samps w (some ⟨b, off, none⟩) l) (h2 : Samps w (some ⟨b2, off2, none⟩) l) :
    Calls Tryz.prog 46 #[.slice (some ⟨b, off, none⟩) n ca, .slice (some ⟨b2, off2, none⟩) n cb] w fun e w' => e = .returned (.bool true) ∧ Below w.heap.size w w' := by
  unfold maxLen at hm hm2
  have H1 : Hid (∀ w', Below w.heap.size w w' → ∀ j, j < n → w'.cell? ⟨b, off + j * 2, none⟩ = some (.int .i64 (l.getD j (0, 0)).1) ∧ w'.cell? ⟨b, off + j * 2 + 1, none⟩ = some (.int .i64 (l.getD j (0, 0)).2)) := Lib.hid (fun w' hb j hj => by
    obtain ⟨b', o', e, hcc⟩ := (h1.below hb).2 (by rw [hl]; exact h0)
    injection e with e
    injection e with e1 e2
    subst e1 e2
    exact hcc j (by rw [hl]; exact hj))
  have H2 : Hid (∀ w', Below w.heap.size w w' → ∀ j, j < n → w'.cell? ⟨b2, off2 + j * 2, none⟩ = some (.int .i64 (l.getD j (0, 0)).1) ∧ w'.cell? ⟨b2, off2 + j * 2 + 1, none⟩ = some (.int .i64 (l.getD j (0, 0)).2)) := Lib.hid (fun w' hb j hj => by
    obtain ⟨b', o', e, hcc⟩ := (h2.below hb).2 (by rw [hl]; exact h0)
    injection e with e
    injection e with e1 e2
    subst e1 e2
    exact hcc j (by rw [hl]; exact hj))
  have h0i : (0 : Int) < (n : Int) := by omega
  clear h1 h2 hl
  go_enter Tryz.func46, Tryz.ntmps46
  go_wp2
  go_loopw [5] (fun si wr => ∃ (k : Nat), k ≤ n ∧ si = .int .i64 (k : Int) ∧ Hid (Below w.heap.size w wr)) (fun si _ => n - (intOf si).toNat)
  case atStart => exact ⟨0, by omega, rfl, Lib.hid (Below.refl _ _)⟩
  case round =>
    obtain ⟨k, hk, rfl, HW⟩ := hrel
    by_cases hlt : k < n
    · obtain ⟨c0, c1⟩ := H1.out wr HW.out k hlt
      obtain ⟨e0, e1⟩ := H2.out wr HW.out k hlt
      generalize l.getD k (0, 0) = a at c0 c1 e0 e1
      have i1 : (0 : Int) ≤ (k : Int) := by omega
      have i2 : (k : Int) < (n : Int) := by omega
      go_upto_region 6 with fail
      go_quiet (fail)
      have HW2 := Lib.hid (past HW.out (belowN wr nq))
      clear c0 c1 e0 e1
      generalize wr.drewN nq = wz at *
      go_wp2
      go_roundw
      case rel => exact ⟨k + 1, by omega, by go_num, HW2⟩
      case measure => simp [intOf]; omega
    · go_wp2
      (try rw [Exit.noGoto_ret])
      go_ret
      exact ⟨rfl, HW.out⟩

set_option maxRecDepth 100000 in
theorem sames_none (A B : Option Addr) (ca cb : Nat) (w : World) : Calls Tryz.prog 46 #[.slice A 0 ca, .slice B 0 cb] w fun e w' => e = .returned (.bool true) ∧ Below w.heap.size w w' := by
  go_enter Tryz.func46, Tryz.ntmps46
  go_wp2
  refine wp_loop_rounds 1 ?_
  rw [rounds_succ]
  go_wp2
  (try rw [Exit.noGoto_ret])
  go_ret
  exact ⟨rfl, Below.refl _ _⟩

theorem sames_any {A B : Option Addr} {n ca cb : Nat} {l : List (Int × Int)} {w : World} (hl : l.length = n) (h1 : Samps w A l) (h2 : Samps w B l) (hc : n ≤ ca) (hc2 : n ≤ cb) (hm : ca ≤ maxLen) (hm2 : cb ≤ maxLen) :
    Calls Tryz.prog 46 #[.slice A n ca, .slice B n cb] w fun e w' => e = .returned (.bool true) ∧ Below w.heap.size w w' := by
  by_cases h0 : 0 < n
  · obtain ⟨b, off, rfl, _⟩ := h1.2 (by omega)
    obtain ⟨b2, off2, rfl, _⟩ := h2.2 (by omega)
    exact sames_in b off b2 off2 n ca cb l w hl hc hc2 hm hm2 h0 h1 h2
  · obtain rfl : n = 0 := by omega
    exact sames_none A B ca cb w
end Go.Proofs.YtepancmkopifpaaGreatDoor
set_option maxRecDepth 100000
namespace Go.Proofs.YtepancmkopifpaaGreatDoor
open Go.RowKit
attribute [local go_sem ↓] Go.wp_at_zero Go.wp_at_succ
set_option linter.unusedVariables false

/-- A segment's box reads so in every later world. -/
structure BoxAt (w : World) (g : Nat) (i k f t : Int) (a b : Value) : Prop where
  c0 : ∀ u : SubB w, u.w.cell? ⟨g, 0, none⟩ = some (.int .i64 i)
  c1 : ∀ u : SubB w, u.w.cell? ⟨g, 1, none⟩ = some (.int .i64 k)
  c2 : ∀ u : SubB w, u.w.cell? ⟨g, 2, none⟩ = some (.int .i64 f)
  c3 : ∀ u : SubB w, u.w.cell? ⟨g, 3, none⟩ = some (.int .i64 t)
  c4 : ∀ u : SubB w, u.w.cell? ⟨g, 4, none⟩ = some a
  c5 : ∀ u : SubB w, u.w.cell? ⟨g, 5, none⟩ = some b
theorem BoxAt.new (w : World) (i k f t : Int) (a b : Value) : BoxAt (w.alloc (.cells #[.int .i64 i, .int .i64 k, .int .i64 f, .int .i64 t, a, b] 25)) w.heap.size i k f t a b := by
  have h := SgV.new w i k f t a b 25
  have hl : w.heap.size < (w.alloc (.cells #[.int .i64 i, .int .i64 k, .int .i64 f, .int .i64 t, a, b] 25)).heap.size := by simp
  exact ⟨fun u => by rw [u.le.cell hl]; exact h.c0, fun u => by rw [u.le.cell hl]; exact h.c1, fun u => by rw [u.le.cell hl]; exact h.c2, fun u => by rw [u.le.cell hl]; exact h.c3, fun u => by rw [u.le.cell hl]; exact h.c4, fun u => by rw [u.le.cell hl]; exact h.c5⟩

set_option maxHeartbeats 2000000 in
theorem mayseg_any {i k f t : Int} {n m ca cb : Nat} {A B : Option Addr} {sm : List (Int × Int)} {ag : List Ag} {w : World} (h : SegAt w ⟨i, k, f, t, sm, ag⟩ A n ca B m cb) (hw : Wid w) :
    Calls Tryz.prog 15 #[.agg #[.int .i64 i, .int .i64 k, .int .i64 f, .int .i64 t, .slice A n ca, .slice B m cb]] w fun e w' => e = .returned (.bool (decide (Sg.may ⟨i, k, f, t, sm, ag⟩))) ∧ Below w.heap.size w w' := by
  obtain ⟨R, hR⟩ : ∃ R, R = decide (Sg.may ⟨i, k, f, t, sm, ag⟩) := ⟨_, rfl⟩
  rw [← hR]
  have hR' : R = decide ((1 ≤ i ∧ i ≤ 1073741824) ∧ 0 ≤ f ∧ f < t ∧ t ≤ 1099511627776 ∧ (if k = 0 then ag.length = 0 ∧ HasS f t sm else sm.length = 0 ∧ HasA f t k ag)) := by
    rw [hR, decide_eq_decide]; exact may_split _
  have HF : Hid (R = true ↔ (1 ≤ i ∧ i ≤ 1073741824) ∧ 0 ≤ f ∧ f < t ∧ t ≤ 1099511627776 ∧ (if k = 0 then ag.length = 0 ∧ HasS f t sm else sm.length = 0 ∧ HasA f t k ag)) := Lib.hid (by rw [hR', decide_eq_true_eq])
  have HNO : Hid ((R = true → False) → R = false) := Lib.hid (fun h => by cases R with | true => exact absurd rfl h | false => rfl)
  obtain ⟨o1, o2, o3, o4, o5, o6⟩ := h.ok
  simp only at o1 o2 o3 o4
  have HM := Lib.hid h.ag.1
  have HN := Lib.hid h.sn
  have HA2 := Lib.hid o2
  have HA3 := Lib.hid o3
  have hb := below_box w (.cells #[.int .i64 i, .int .i64 k, .int .i64 f, .int .i64 t, .slice A n ca, .slice B m cb] 25)
  have HS : Hid (∀ u, Below (w.alloc (.cells #[.int .i64 i, .int .i64 k, .int .i64 f, .int .i64 t, .slice A n ca, .slice B m cb] 25)).heap.size (w.alloc (.cells #[.int .i64 i, .int .i64 k, .int .i64 f, .int .i64 t, .slice A n ca, .slice B m cb] 25)) u → SegAt u ⟨i, k, f, t, sm, ag⟩ A n ca B m cb ∧ Wid u ∧ Below w.heap.size w u) := Lib.hid (fun u hu => ⟨h.below (past hb hu), hw.below (past hb hu), past hb hu⟩)
  have HB := Lib.hid (BoxAt.new w i k f t (.slice A n ca) (.slice B m cb))
  have hcn := h.sm.le
  have hcm := h.ag.2.2.1
  have hx1 := h.sm.max
  have hx2 := h.ag.2.2.2.1
  simp only at hcn
  unfold maxLen at hx1 hx2
  rw [show sm.length = n from h.sn] at hcn
  clear h hw hR hR' o1 o2 o3 o4 o5 o6 hb
  go_enter Tryz.func15, Tryz.ntmps15
  go_upto_region 1 with fail
  generalize (w.alloc (.cells #[.int .i64 i, .int .i64 k, .int .i64 f, .int .i64 t, .slice A n ca, .slice B m cb] 25)) = w1 at *
  have c0 := HB.out.c0 ⟨w1, Below.refl _ _⟩
  have c1 := HB.out.c1 ⟨w1, Below.refl _ _⟩
  have c2 := HB.out.c2 ⟨w1, Below.refl _ _⟩
  have c3 := HB.out.c3 ⟨w1, Below.refl _ _⟩
  simp only [SubB.w] at c0 c1 c2 c3
  go_cut [39] (fun c wx => c = .bool (decide (i < 1 ∨ i > 1073741824 ∨ k < 0 ∨ k > 3 ∨ f < 0 ∨ f ≥ t ∨ t > 1099511627776)) ∧ w1 = wx)
  case first =>
    by_cases b0 : i < 1
    · have HE : Hid (decide (i < 1 ∨ i > 1073741824 ∨ k < 0 ∨ k > 3 ∨ f < 0 ∨ f ≥ t ∨ t > 1099511627776) = true) := Lib.hid (decide_eq_true (by omega))
      go_wp2
      go_meet
      exact ⟨by rw [HE.out], rfl⟩
    by_cases b1 : i > 1073741824
    · have HE : Hid (decide (i < 1 ∨ i > 1073741824 ∨ k < 0 ∨ k > 3 ∨ f < 0 ∨ f ≥ t ∨ t > 1099511627776) = true) := Lib.hid (decide_eq_true (by omega))
      go_wp2
      go_meet
      exact ⟨by rw [HE.out], rfl⟩
    by_cases b2 : k < 0
    · have HE : Hid (decide (i < 1 ∨ i > 1073741824 ∨ k < 0 ∨ k > 3 ∨ f < 0 ∨ f ≥ t ∨ t > 1099511627776) = true) := Lib.hid (decide_eq_true (by omega))
      go_wp2
      go_meet
      exact ⟨by rw [HE.out], rfl⟩
    by_cases b3 : k > 3
    · have HE : Hid (decide (i < 1 ∨ i > 1073741824 ∨ k < 0 ∨ k > 3 ∨ f < 0 ∨ f ≥ t ∨ t > 1099511627776) = true) := Lib.hid (decide_eq_true (by omega))
      go_wp2
      go_meet
      exact ⟨by rw [HE.out], rfl⟩
    by_cases b4 : f < 0
    · have HE : Hid (decide (i < 1 ∨ i > 1073741824 ∨ k < 0 ∨ k > 3 ∨ f < 0 ∨ f ≥ t ∨ t > 1099511627776) = true) := Lib.hid (decide_eq_true (by omega))
      go_wp2
      go_meet
      exact ⟨by rw [HE.out], rfl⟩
    by_cases b5 : f ≥ t
    · have HE : Hid (decide (i < 1 ∨ i > 1073741824 ∨ k < 0 ∨ k > 3 ∨ f < 0 ∨ f ≥ t ∨ t > 1099511627776) = true) := Lib.hid (decide_eq_true (by omega))
      go_wp2
      go_meet
      exact ⟨by rw [HE.out], rfl⟩
    by_cases b6 : t > 1099511627776
    · have HE : Hid (decide (i < 1 ∨ i > 1073741824 ∨ k < 0 ∨ k > 3 ∨ f < 0 ∨ f ≥ t ∨ t > 1099511627776) = true) := Lib.hid (decide_eq_true (by omega))
      go_wp2
      go_meet
      exact ⟨by rw [HE.out], rfl⟩
    have HE : Hid (decide (i < 1 ∨ i > 1073741824 ∨ k < 0 ∨ k > 3 ∨ f < 0 ∨ f ≥ t ∨ t > 1099511627776) = false) := Lib.hid (decide_eq_false (by omega))
    go_wp2
    go_meet
    exact ⟨by rw [HE.out], rfl⟩
  case rest =>
    obtain ⟨rfl, rfl⟩ := hcut
    by_cases hbad : i < 1 ∨ i > 1073741824 ∨ k < 0 ∨ k > 3 ∨ f < 0 ∨ f ≥ t ∨ t > 1099511627776
    · rw [decide_eq_true hbad]
      have HV : Hid (R = false) := Lib.hid (HNO.out (fun e => by
        have := HF.out.1 e
        rcases hbad with h | h | h | h | h | h | h
        · omega
        · omega
        · rw [if_neg (by omega)] at this
          have := this.2.2.2.2.2.2.2.1.1
          unfold coarse at this
          omega
        · rw [if_neg (by omega)] at this
          have := this.2.2.2.2.2.2.2.1.1
          unfold coarse at this
          omega
        · omega
        · omega
        · omega))
      go_wp2
      (try rw [Exit.noGoto_ret])
      go_ret
      exact ⟨by rw [HV.out]; rfl, (HS.out _ (Below.refl _ _)).2.2⟩
    · rw [decide_eq_false hbad]
      have HG : Hid ((1 ≤ i ∧ i ≤ 1073741824) ∧ 0 ≤ f ∧ f < t ∧ t ≤ 1099511627776) := Lib.hid (by omega)
      have hk : 0 ≤ k ∧ k ≤ 3 := by omega
      clear hbad
      by_cases hk0 : k = 0
      · have HK0 := Lib.hid hk0
        have c4 := HB.out.c4 ⟨w1, Below.refl _ _⟩
        simp only [SubB.w] at c4
        obtain ⟨d0, d1, d2, d3, d4, d5⟩ := HB.out
        go_wp2_with fail
        go_upto_region 5 with fail
        clear c0 c1 c2 c3 c4
        by_cases q1 : m = 0
        case neg =>
          have e1 : ((m : Int) == 0) = false := by simp; omega
          have HV : Hid (R = false) := Lib.hid (HNO.out (fun e => by have := (HF.out.1 e).2.2.2.2; rw [if_pos HK0.out] at this; have h1 := this.1; have h2 := HM.out; (try simp only at h2); omega))
          clear HF HNO HG
          refine wp_region_calm (by kernel_rfl) (by kernel_rfl) ?_
          (try simp only [List.append])
          repeat (go_big_quiet_step ((go_at_call 43; exact calm_call (M1.out _))))
          refine wpQuiet_nil ?_
          rintro _ ⟨u, rfl⟩
          go_wp2
          (try rw [Exit.noGoto_ret])
          go_ret
          exact ⟨by rw [HV.out]; rfl, (HS.out _ u.le).2.2⟩
        · have e1 : ((m : Int) == 0) = true := by simp; omega
          have HSN : Hid (HasS f t sm → 1 ≤ n ∧ n ≤ 64 ∧ Rise sm) := Lib.hid (fun hh => by have h2 := HN.out; (try simp only at h2); have := hh.1; have := hh.2.1; exact ⟨by omega, by omega, hh.2.2.1⟩)
          have HRS : Hid (R = true → HasS f t sm) := Lib.hid (fun e => by have := (HF.out.1 e).2.2.2.2; rw [if_pos HK0.out] at this; exact this.2)
          by_cases q2 : 1 ≤ n
          case neg =>
            have e2 : decide ((n : Int) ≥ 1) = false := decide_eq_false (by omega)
            have HV : Hid (R = false) := Lib.hid (HNO.out (fun e => q2 (HSN.out (HRS.out e)).1))
            clear HF HNO HG
            refine wp_region_calm (by kernel_rfl) (by kernel_rfl) ?_
            (try simp only [List.append])
            repeat (go_big_quiet_step ((go_at_call 43; exact calm_call (M1.out _))))
            refine wpQuiet_nil ?_
            rintro _ ⟨u, rfl⟩
            go_wp2
            (try rw [Exit.noGoto_ret])
            go_ret
            exact ⟨by rw [HV.out]; rfl, (HS.out _ u.le).2.2⟩
          by_cases q3 : n ≤ 64
          case neg =>
            have e2 : decide ((n : Int) ≥ 1) = true := decide_eq_true (by omega)
            have e3 : decide ((n : Int) ≤ 64) = false := decide_eq_false (by omega)
            have HV : Hid (R = false) := Lib.hid (HNO.out (fun e => q3 (HSN.out (HRS.out e)).2.1))
            clear HF HNO HG
            refine wp_region_calm (by kernel_rfl) (by kernel_rfl) ?_
            (try simp only [List.append])
            repeat (go_big_quiet_step ((go_at_call 43; exact calm_call (M1.out _))))
            refine wpQuiet_nil ?_
            rintro _ ⟨u, rfl⟩
            go_wp2
            (try rw [Exit.noGoto_ret])
            go_ret
            exact ⟨by rw [HV.out]; rfl, (HS.out _ u.le).2.2⟩
          have e2 : decide ((n : Int) ≥ 1) = true := decide_eq_true (by omega)
          have e3 : decide ((n : Int) ≤ 64) = true := decide_eq_true (by omega)
          have m1 : ∀ u : SubB w1, Calls Tryz.prog 43 #[.slice A n ca] u.w fun e w' => e = .returned (.bool (decide (Rise sm))) ∧ Below u.w.heap.size u.w w' := fun u => rrising_any HN.out (HS.out u.w u.le).1.sm.samps hcn (by unfold maxLen; omega)
          by_cases q4 : Rise sm
          case neg =>
            rw [decide_eq_false q4] at m1
            have M1 := Lib.hid m1
            clear m1
            have HV : Hid (R = false) := Lib.hid (HNO.out (fun e => q4 (HSN.out (HRS.out e)).2.2))
            clear HF HNO HG
            refine wp_region_calm (by kernel_rfl) (by kernel_rfl) ?_
            (try simp only [List.append])
            repeat (go_big_quiet_step ((go_at_call 43; exact calm_call (M1.out _))))
            refine wpQuiet_nil ?_
            rintro _ ⟨u, rfl⟩
            go_wp2
            (try rw [Exit.noGoto_ret])
            go_ret
            exact ⟨by rw [HV.out]; rfl, (HS.out _ u.le).2.2⟩
          rw [decide_eq_true q4] at m1
          have M1 := Lib.hid m1
          clear m1
          have HEN := Lib.hid (hasS_ends (f := f) (t := t) HN.out (by omega) q3 q4)
          obtain ⟨b, off, hA, _⟩ := (HS.out w1 (Below.refl _ _)).1.sm.samps.2 (by have h2 := HN.out; (try simp only at h2 ⊢); omega)
          subst hA
          have hcc : ∀ (u : SubB w1) (j : Nat), j < n → u.w.cell? ⟨b, off + j * 2, none⟩ = some (.int .i64 (sm.getD j (0, 0)).1) := fun u j hj => by
            obtain ⟨b', o', e, hc⟩ := (HS.out u.w u.le).1.sm.samps.2 (by have h2 := HN.out; (try simp only at h2 ⊢); omega)
            injection e with e
            injection e with x1 x2
            subst x1 x2
            exact (hc j (by have h2 := HN.out; (try simp only at h2 ⊢); omega)).1
          have f0 := fun u => hcc u 0 (by omega)
          have f1 := fun u => hcc u (n - 1) (by omega)
          obtain ⟨T0, hT0⟩ : ∃ T, (sm.getD 0 (0, 0)).1 = T := ⟨_, rfl⟩
          obtain ⟨T1, hT1⟩ : ∃ T, (sm.getD (n - 1) (0, 0)).1 = T := ⟨_, rfl⟩
          rw [hT0, hT1] at HEN
          simp only [hT0, Nat.zero_mul, Nat.add_zero] at f0
          simp only [hT1] at f1
          have i0 : (0 : Int) < (n : Int) := by omega
          have i1 : IntKind.i64.wrap ((n : Int) - 1) = (n : Int) - 1 := by rw [IntKind.wrap_i64]; omega
          have i2 : (0 : Int) ≤ (n : Int) - 1 := by omega
          have i3 : (n : Int) - 1 < (n : Int) := by omega
          have i4 : ((n : Int) - 1).toNat = n - 1 := by omega
          have j0 : 0 < n := by omega
          clear hcc hT0 hT1 q4
          by_cases q5 : T0 ≥ f
          case neg =>
            have e4 : decide (T0 ≥ f) = false := decide_eq_false q5
            have HV : Hid (R = false) := Lib.hid (HNO.out (fun e => q5 (HEN.out.1 (HRS.out e)).1))
            clear HF HNO HG
            refine wp_region_calm (by kernel_rfl) (by kernel_rfl) ?_
            (try simp only [List.append])
            repeat (go_big_quiet_step ((go_at_call 43; exact calm_call (M1.out _))))
            refine wpQuiet_nil ?_
            rintro _ ⟨u, rfl⟩
            go_wp2
            (try rw [Exit.noGoto_ret])
            go_ret
            exact ⟨by rw [HV.out]; rfl, (HS.out _ u.le).2.2⟩
          have e4 : decide (T0 ≥ f) = true := decide_eq_true q5
          by_cases q6 : T1 < t
          case neg =>
            have e5 : decide (T1 < t) = false := decide_eq_false q6
            have HV : Hid (R = false) := Lib.hid (HNO.out (fun e => q6 (HEN.out.1 (HRS.out e)).2))
            clear HF HNO HG
            refine wp_region_calm (by kernel_rfl) (by kernel_rfl) ?_
            (try simp only [List.append])
            repeat (go_big_quiet_step ((go_at_call 43; exact calm_call (M1.out _))))
            refine wpQuiet_nil ?_
            rintro _ ⟨u, rfl⟩
            go_wp2
            (try rw [Exit.noGoto_ret])
            go_ret
            exact ⟨by rw [HV.out]; rfl, (HS.out _ u.le).2.2⟩
          have e5 : decide (T1 < t) = true := decide_eq_true q6
          have HV : Hid (R = true) := Lib.hid (HF.out.2 ⟨HG.out.1, HG.out.2.1, HG.out.2.2.1, HG.out.2.2.2, by rw [if_pos HK0.out]; exact ⟨by have h2 := HM.out; (try simp only at h2); omega, HEN.out.2 ⟨q5, q6⟩⟩⟩)
          clear HF HNO HG
          refine wp_region_calm (by kernel_rfl) (by kernel_rfl) ?_
          (try simp only [List.append])
          repeat (go_big_quiet_step ((go_at_call 43; exact calm_call (M1.out _))))
          refine wpQuiet_nil ?_
          rintro _ ⟨u, rfl⟩
          go_wp2
          (try rw [Exit.noGoto_ret])
          go_ret
          exact ⟨by rw [HV.out]; rfl, (HS.out _ u.le).2.2⟩
      · have HK0 := Lib.hid hk0
        have ek : (k == 0) = false := by simp [hk0]
        have c5 := HB.out.c5 ⟨w1, Below.refl _ _⟩
        simp only [SubB.w] at c5
        obtain ⟨d0, d1, d2, d3, d4, d5⟩ := HB.out
        go_wp2_with fail
        go_upto_region 7 with fail
        clear c0 c1 c2 c3 c5
        by_cases q1 : n = 0
        case neg =>
          have e1 : ((n : Int) == 0) = false := by simp; omega
          have HV : Hid (R = false) := Lib.hid (HNO.out (fun e => by have := (HF.out.1 e).2.2.2.2; rw [if_neg HK0.out] at this; have h1 := this.1; have h2 := HN.out; (try simp only at h2); omega))
          clear HF HNO HG
          refine wp_region_calm (by kernel_rfl) (by kernel_rfl) ?_
          (try simp only [List.append])
          repeat (go_big_quiet_step ((first | (go_at_call 44; exact calm_call (M1.out _)) | (go_at_call 45; exact calm_same (M2.out _)))))
          refine wpQuiet_nil ?_
          rintro _ ⟨u, rfl⟩
          go_wp2
          (try rw [Exit.noGoto_ret])
          go_ret
          exact ⟨by rw [HV.out]; rfl, (HS.out _ u.le).2.2⟩
        · have e1 : ((n : Int) == 0) = true := by simp; omega
          have HSN : Hid (HasA f t k ag → 1 ≤ m ∧ m ≤ 64 ∧ Align ag k) := Lib.hid (fun hh => by have h2 := HM.out; (try simp only at h2); have := hh.1; have := hh.2.1; exact ⟨by omega, by omega, hh.2.2.1⟩)
          have HRS : Hid (R = true → HasA f t k ag) := Lib.hid (fun e => by have := (HF.out.1 e).2.2.2.2; rw [if_neg HK0.out] at this; exact this.2)
          by_cases q2 : 1 ≤ m
          case neg =>
            have e2 : decide ((m : Int) ≥ 1) = false := decide_eq_false (by omega)
            have HV : Hid (R = false) := Lib.hid (HNO.out (fun e => q2 (HSN.out (HRS.out e)).1))
            clear HF HNO HG
            refine wp_region_calm (by kernel_rfl) (by kernel_rfl) ?_
            (try simp only [List.append])
            repeat (go_big_quiet_step ((first | (go_at_call 44; exact calm_call (M1.out _)) | (go_at_call 45; exact calm_same (M2.out _)))))
            refine wpQuiet_nil ?_
            rintro _ ⟨u, rfl⟩
            go_wp2
            (try rw [Exit.noGoto_ret])
            go_ret
            exact ⟨by rw [HV.out]; rfl, (HS.out _ u.le).2.2⟩
          by_cases q3 : m ≤ 64
          case neg =>
            have e2 : decide ((m : Int) ≥ 1) = true := decide_eq_true (by omega)
            have e3 : decide ((m : Int) ≤ 64) = false := decide_eq_false (by omega)
            have HV : Hid (R = false) := Lib.hid (HNO.out (fun e => q3 (HSN.out (HRS.out e)).2.1))
            clear HF HNO HG
            refine wp_region_calm (by kernel_rfl) (by kernel_rfl) ?_
            (try simp only [List.append])
            repeat (go_big_quiet_step ((first | (go_at_call 44; exact calm_call (M1.out _)) | (go_at_call 45; exact calm_same (M2.out _)))))
            refine wpQuiet_nil ?_
            rintro _ ⟨u, rfl⟩
            go_wp2
            (try rw [Exit.noGoto_ret])
            go_ret
            exact ⟨by rw [HV.out]; rfl, (HS.out _ u.le).2.2⟩
          have e2 : decide ((m : Int) ≥ 1) = true := decide_eq_true (by omega)
          have e3 : decide ((m : Int) ≤ 64) = true := decide_eq_true (by omega)
          have m1 : ∀ u : SubB w1, Calls Tryz.prog 44 #[.slice B m cb, .int .i64 k] u.w fun e w' => e = .returned (.bool (decide (Align ag k))) ∧ Below u.w.heap.size u.w w' := fun u => raligned_any k HM.out (HS.out u.w u.le).1.ag.2.1 hcm (by unfold maxLen; omega)
          have m2 : ∀ u : SubB w1, Calls Tryz.prog 45 #[.int .i64 f, .int .i64 k] u.w fun e w' => e = .returned (.int .i64 (flr f k)) ∧ u.w = w' := fun u => rfloor_any f k u.w HA3.out HA2.out
          by_cases q4 : Align ag k
          case neg =>
            rw [decide_eq_false q4] at m1
            have M1 := Lib.hid m1
            have M2 := Lib.hid m2
            clear m1 m2
            have HV : Hid (R = false) := Lib.hid (HNO.out (fun e => q4 (HSN.out (HRS.out e)).2.2))
            clear HF HNO HG
            refine wp_region_calm (by kernel_rfl) (by kernel_rfl) ?_
            (try simp only [List.append])
            repeat (go_big_quiet_step ((first | (go_at_call 44; exact calm_call (M1.out _)) | (go_at_call 45; exact calm_same (M2.out _)))))
            refine wpQuiet_nil ?_
            rintro _ ⟨u, rfl⟩
            go_wp2
            (try rw [Exit.noGoto_ret])
            go_ret
            exact ⟨by rw [HV.out]; rfl, (HS.out _ u.le).2.2⟩
          rw [decide_eq_true q4] at m1
          have M1 := Lib.hid m1
          clear m1
          have HEN := Lib.hid (hasA_ends (f := f) (t := t) HM.out (by omega) q3 q4)
          obtain ⟨b, off, hA, _⟩ := (HS.out w1 (Below.refl _ _)).1.ag.form (by omega)
          subst hA
          have hcc : ∀ (u : SubB w1) (j : Nat), j < m → u.w.cell? ⟨b, off + j * 7, none⟩ = some (.int .i64 (agAt ag j).fr) := fun u j hj => by
            obtain ⟨b', o', e, hc⟩ := (HS.out u.w u.le).1.ag.form (by omega)
            injection e with e
            injection e with x1 x2
            subst x1 x2
            exact (hc _ (Below.refl _ _) j hj).1
          have f0 := fun u => hcc u 0 (by omega)
          have f1 := fun u => hcc u (m - 1) (by omega)
          obtain ⟨T0, hT0⟩ : ∃ T, (agAt ag 0).fr = T := ⟨_, rfl⟩
          obtain ⟨T1, hT1⟩ : ∃ T, (agAt ag (m - 1)).fr = T := ⟨_, rfl⟩
          obtain ⟨F0, hF0⟩ : ∃ F, flr f k = F := ⟨_, rfl⟩
          rw [hT0, hT1, hF0] at HEN
          rw [hF0] at m2
          have M2 := Lib.hid m2
          simp only [hT0, Nat.zero_mul, Nat.add_zero] at f0
          simp only [hT1] at f1
          have i0 : (0 : Int) < (m : Int) := by omega
          have i1 : IntKind.i64.wrap ((m : Int) - 1) = (m : Int) - 1 := by rw [IntKind.wrap_i64]; omega
          have i2 : (0 : Int) ≤ (m : Int) - 1 := by omega
          have i3 : (m : Int) - 1 < (m : Int) := by omega
          have i4 : ((m : Int) - 1).toNat = m - 1 := by omega
          have j0 : 0 < m := by omega
          clear hcc hT0 hT1 hF0 q4 m2
          by_cases q5 : T0 ≥ F0
          case neg =>
            have e4 : decide (T0 ≥ F0) = false := decide_eq_false q5
            have HV : Hid (R = false) := Lib.hid (HNO.out (fun e => q5 (HEN.out.1 (HRS.out e)).1))
            clear HF HNO HG
            refine wp_region_calm (by kernel_rfl) (by kernel_rfl) ?_
            (try simp only [List.append])
            repeat (go_big_quiet_step ((first | (go_at_call 44; exact calm_call (M1.out _)) | (go_at_call 45; exact calm_same (M2.out _)))))
            refine wpQuiet_nil ?_
            rintro _ ⟨u, rfl⟩
            go_wp2
            (try rw [Exit.noGoto_ret])
            go_ret
            exact ⟨by rw [HV.out]; rfl, (HS.out _ u.le).2.2⟩
          have e4 : decide (T0 ≥ F0) = true := decide_eq_true q5
          by_cases q6 : T1 < t
          case neg =>
            have e5 : decide (T1 < t) = false := decide_eq_false q6
            have HV : Hid (R = false) := Lib.hid (HNO.out (fun e => q6 (HEN.out.1 (HRS.out e)).2))
            clear HF HNO HG
            refine wp_region_calm (by kernel_rfl) (by kernel_rfl) ?_
            (try simp only [List.append])
            repeat (go_big_quiet_step ((first | (go_at_call 44; exact calm_call (M1.out _)) | (go_at_call 45; exact calm_same (M2.out _)))))
            refine wpQuiet_nil ?_
            rintro _ ⟨u, rfl⟩
            go_wp2
            (try rw [Exit.noGoto_ret])
            go_ret
            exact ⟨by rw [HV.out]; rfl, (HS.out _ u.le).2.2⟩
          have e5 : decide (T1 < t) = true := decide_eq_true q6
          have HV : Hid (R = true) := Lib.hid (HF.out.2 ⟨HG.out.1, HG.out.2.1, HG.out.2.2.1, HG.out.2.2.2, by rw [if_neg HK0.out]; exact ⟨by have h2 := HN.out; (try simp only at h2); omega, HEN.out.2 ⟨q5, q6⟩⟩⟩)
          clear HF HNO HG
          refine wp_region_calm (by kernel_rfl) (by kernel_rfl) ?_
          (try simp only [List.append])
          repeat (go_big_quiet_step ((first | (go_at_call 44; exact calm_call (M1.out _)) | (go_at_call 45; exact calm_same (M2.out _)))))
          refine wpQuiet_nil ?_
          rintro _ ⟨u, rfl⟩
          go_wp2
          (try rw [Exit.noGoto_ret])
          go_ret
          exact ⟨by rw [HV.out]; rfl, (HS.out _ u.le).2.2⟩
end Go.Proofs.YtepancmkopifpaaGreatDoor
set_option maxRecDepth 100000
namespace Go.Proofs.YtepancmkopifpaaGreatDoor
open Go.RowKit
attribute [local go_sem ↓] Go.wp_at_zero Go.wp_at_succ
set_option linter.unusedVariables false

theorem four_any (R : Nat) (w : World) (hlt : R < 4294967296) : Calls Tryz.prog 27 #[.int .u32 (R : Int)] w fun e w' => e = .returned (.string (strB (four R))) ∧ Below w.heap.size w w' := by
  have e : bytesV (four R) = (#[Value.int IntKind.u8 ((R : Int) % 256), Value.int IntKind.u8 ((R : Int) / 256 % 256), Value.int IntKind.u8 ((R : Int) / 65536 % 256), Value.int IntKind.u8 ((R : Int) / 16777216)] : Array Value).toList := by
    unfold bytesV four
    simp only [List.map_cons, List.map_nil]
    have e4 : ((R / 16777216 % 256 : Nat) : Int) = (R : Int) / 16777216 := by omega
    rw [e4]
    simp
  have hown := World.ownsRow_lit (base := w.heap.size) (size := 1) (e := 5) w #[Value.int IntKind.u8 ((R : Int) % 256), Value.int IntKind.u8 ((R : Int) / 256 % 256), Value.int IntKind.u8 ((R : Int) / 65536 % 256), Value.int IntKind.u8 ((R : Int) / 16777216)] 4 (Nat.le_refl _) (by unfold maxLen; omega) rfl
  rw [← e] at hown
  obtain ⟨A, cap, e2, hr, _⟩ := brow_of_own hown (four_byte R)
  injection e2 with e3 _ e4
  subst e3 e4
  have hc := conv_bytes hr.bytes 4 4 hr.len
  clear hown hr e
  generalize strB (four R) = S at *
  go_enter Tryz.func27, Tryz.ntmps27
  go_wp2
  go_ret
  exact ⟨rfl, below_box _ _⟩
end Go.Proofs.YtepancmkopifpaaGreatDoor
