/-
  Rows of segments; isRow: what it returns; nothing that was there is written.
-/
import Derived.Test.YtepancmkopifpaaGreatDoorSKeep
set_option maxRecDepth 100000
namespace Go.Proofs.YtepancmkopifpaaGreatDoor
open Go.RowKit
attribute [local go_sem ↓] Go.wp_at_zero Go.wp_at_succ
set_option linter.unusedVariables false

def sgAt (l : List Sg) (j : Nat) : Sg := l.getD j Sg.zero
def rowAt (l : List Sg) (q : Int) (j : Nat) : Prop := (sgAt l j).may ∧ (sgAt l j).tier = q ∧ (0 < j → (sgAt l j).fr = (sgAt l (j - 1)).tz)
theorem chainOn_iff {k : Int} : ∀ (l : List Sg) (e : Int), chainOn k e l ↔ ∀ j, j < l.length → (sgAt l j).may ∧ (sgAt l j).tier = k - 1 ∧ (sgAt l j).fr = if j = 0 then e else (sgAt l (j - 1)).tz
  | [], e => ⟨fun _ j hj => absurd hj (by simp), fun _ => trivial⟩
  | s :: r, e => by
    have ih := chainOn_iff (k := k) r s.tz
    unfold chainOn
    rw [ih]
    constructor
    · rintro ⟨h1, h2, h3, h4⟩ j hj
      match j, hj with
      | 0, _ => exact ⟨h1, h2, h3⟩
      | 1, hj =>
        have := h4 0 (by simp at hj ⊢; omega)
        exact this
      | j + 2, hj =>
        have := h4 (j + 1) (by simp at hj ⊢; omega)
        exact this
    · intro h
      obtain ⟨h1, h2, h3⟩ := h 0 (by simp)
      refine ⟨h1, h2, h3, fun j hj => ?_⟩
      have := h (j + 1) (by simp; omega)
      match j, this with
      | 0, this => exact this
      | j + 1, this => exact this
theorem chain_iff {q : Int} (l : List Sg) : chain (q + 1) l ↔ 0 < l.length ∧ ∀ j, j < l.length → rowAt l q j := by
  have e : q + 1 - 1 = q := by omega
  cases l with
  | nil => exact ⟨fun h => h.elim, fun h => absurd h.1 (by simp)⟩
  | cons s r =>
    show (s.may ∧ s.tier = q + 1 - 1 ∧ chainOn (q + 1) s.tz r) ↔ _
    rw [chainOn_iff, e]
    constructor
    · rintro ⟨h1, h2, h3⟩
      refine ⟨by simp, fun j hj => ?_⟩
      match j, hj with
      | 0, _ => exact ⟨h1, h2, fun h => absurd h (by omega)⟩
      | 1, hj =>
        have := h3 0 (by simp at hj ⊢; omega)
        exact ⟨this.1, this.2.1, fun _ => this.2.2⟩
      | j + 2, hj =>
        have := h3 (j + 1) (by simp at hj ⊢; omega)
        exact ⟨this.1, this.2.1, fun _ => this.2.2⟩
    · rintro ⟨_, h⟩
      refine ⟨(h 0 (by simp)).1, (h 0 (by simp)).2.1, fun j hj => ?_⟩
      have := h (j + 1) (by simp; omega)
      refine ⟨this.1, this.2.1, ?_⟩
      have h3 := this.2.2 (by omega)
      match j, h3 with
      | 0, h3 => exact h3
      | j + 1, h3 => exact h3

/-- A segment's six cells, from a place on. -/
structure SgC (w : World) (g o : Nat) (s : Sg) (A : Option Addr) (n ca : Nat) (B : Option Addr) (m cb : Nat) : Prop where
  c0 : w.cell? ⟨g, o, none⟩ = some (.int .i64 s.id)
  c1 : w.cell? ⟨g, o + 1, none⟩ = some (.int .i64 s.tier)
  c2 : w.cell? ⟨g, o + 2, none⟩ = some (.int .i64 s.fr)
  c3 : w.cell? ⟨g, o + 3, none⟩ = some (.int .i64 s.tz)
  c4 : w.cell? ⟨g, o + 4, none⟩ = some (.slice A n ca)
  c5 : w.cell? ⟨g, o + 5, none⟩ = some (.slice B m cb)
  at_ : SegAt w s A n ca B m cb
theorem SgC.below {w w' : World} {g o : Nat} {s : Sg} {A : Option Addr} {n ca : Nat} {B : Option Addr} {m cb : Nat} (h : SgC w g o s A n ca B m cb) (hb : Below w.heap.size w w') : SgC w' g o s A n ca B m cb := by
  have l : g < w.heap.size := World.block_lt_of_cell? w _ h.c0
  obtain ⟨c0, c1, c2, c3, c4, c5, h6⟩ := h
  exact ⟨by rw [hb.cell l]; exact c0, by rw [hb.cell l]; exact c1, by rw [hb.cell l]; exact c2, by rw [hb.cell l]; exact c3, by rw [hb.cell l]; exact c4, by rw [hb.cell l]; exact c5, h6.below hb⟩
/-- A row of segments. -/
def Segs (w : World) (g off : Nat) (l : List Sg) : Prop := ∀ j, j < l.length → ∃ A n ca B m cb, SgC w g (off + j * 6) (sgAt l j) A n ca B m cb
theorem Segs.below {w w' : World} {g off : Nat} {l : List Sg} (h : Segs w g off l) (hb : Below w.heap.size w w') : Segs w' g off l := fun j hj => by
  obtain ⟨A, n, ca, B, m, cb, hc⟩ := h j hj
  exact ⟨A, n, ca, B, m, cb, hc.below hb⟩

set_option maxHeartbeats 600000 in
theorem isRow_any {g off L c : Nat} {l : List Sg} {q : Int} {w : World} (h : Segs w g off l) (hL : l.length = L) (hc : L ≤ c) (hm : c ≤ 1000) (hw : Wid w) (hq : In64 q) :
    Calls Tryz.prog 36 #[.slice (some ⟨g, off, none⟩) L c, .int .i64 q] w fun e w' => e = .returned (.bool (decide (chain (q + 1) l))) ∧ Below w.heap.size w w' := by
  obtain ⟨R, hR⟩ : ∃ R, R = decide (chain (q + 1) l) := ⟨_, rfl⟩
  rw [← hR]
  have HT : Hid (R = true ↔ 0 < L ∧ ∀ j, j < L → rowAt l q j) := Lib.hid (by rw [hR, decide_eq_true_eq, chain_iff, hL])
  have HS := Lib.hid h
  have HL := Lib.hid hL
  have HW := Lib.hid hw
  obtain ⟨B0, hB0⟩ : ∃ B, B = decide (0 < L) := ⟨_, rfl⟩
  have hB0' : decide (0 < L) = B0 := hB0.symm
  have HB0 := Lib.hid hB0
  clear hR h hL hw hB0
  go_enter Tryz.func36, Tryz.ntmps36
  go_wp2
  go_step3
  go_wp2
  go_step3
  go_wp2
  clear hB0'
  go_loopw [13, 5] (fun si s5 wr => ∃ (j : Nat), j ≤ L ∧ si = .int .i64 (j : Int) ∧ s5 = .bool B0 ∧ Hid (∀ i, i < j → rowAt l q i) ∧ Hid (Below w.heap.size w wr)) (fun si _ _ => L - (intOf si).toNat)
  case atStart => exact ⟨0, by omega, rfl, rfl, Lib.hid (fun i hi => absurd hi (by omega)), Lib.hid (Below.refl _ _)⟩
  case round =>
    obtain ⟨j, hj, rfl, rfl, HR, HB⟩ := hrel
    by_cases hlt : j < L
    · obtain ⟨A, n, ca, B, m, cb, hs⟩ := (HS.out.below HB.out) j (by rw [HL.out]; exact hlt)
      have hat : rowAt l q j ↔ (sgAt l j).may ∧ (sgAt l j).tier = q ∧ (0 < j → (sgAt l j).fr = (sgAt l (j - 1)).tz) := Iff.rfl
      obtain ⟨sj, hsj⟩ : ∃ sj, sj = sgAt l j := ⟨_, rfl⟩
      rw [← hsj] at hat hs
      clear hsj
      obtain ⟨i, k, f, t, sm, ag⟩ := sj
      simp only at hat
      obtain ⟨c0, c1, c2, c3, c4, c5, hseg⟩ := hs
      simp only at c0 c1 c2 c3
      have HSEG := Lib.hid hseg
      have hcap : (j : Int) < (L : Int) := by omega
      have i1 : (0 : Int) ≤ (j : Int) := by omega
      have HB9 : Hid (Below w.heap.size w (wr.alloc (.cells #[.int .i64 i, .int .i64 k, .int .i64 f, .int .i64 t, .slice A n ca, .slice B m cb] 25))) := Lib.hid (past HB.out (below_box _ _))
      have HV9 : Hid (SgV (wr.alloc (.cells #[.int .i64 i, .int .i64 k, .int .i64 f, .int .i64 t, .slice A n ca, .slice B m cb] 25)) wr.heap.size i k f t (.slice A n ca) (.slice B m cb)) := Lib.hid (SgV.new wr i k f t _ _ 25)
      have HSEG9 : Hid (SegAt (wr.alloc (.cells #[.int .i64 i, .int .i64 k, .int .i64 f, .int .i64 t, .slice A n ca, .slice B m cb] 25)) ⟨i, k, f, t, sm, ag⟩ A n ca B m cb) := Lib.hid (hseg.below (below_box _ _))
      have HS9 := Lib.hid (HS.out.below HB9.out)
      have hkin : In64 k := hseg.ok.2.1
      clear hseg
      go_upto_region 5 with fail
      clear c0 c1 c2 c3 c4 c5 HSEG
      generalize wr.alloc (.cells #[.int .i64 i, .int .i64 k, .int .i64 f, .int .i64 t, .slice A n ca, .slice B m cb] 25) = ws at *
      generalize wr.heap.size = g9 at *
      have HWS : Hid (Wid ws) := Lib.hid (HW.out.below HB9.out)
      have D0 : ∀ u : SubB ws, u.w.cell? ⟨g9, 0, none⟩ = some (.int .i64 i) := fun u => (HV9.out.below u.le).c0
      have D1 : ∀ u : SubB ws, u.w.cell? ⟨g9, 1, none⟩ = some (.int .i64 k) := fun u => (HV9.out.below u.le).c1
      have D2 : ∀ u : SubB ws, u.w.cell? ⟨g9, 2, none⟩ = some (.int .i64 f) := fun u => (HV9.out.below u.le).c2
      have D3 : ∀ u : SubB ws, u.w.cell? ⟨g9, 3, none⟩ = some (.int .i64 t) := fun u => (HV9.out.below u.le).c3
      have D4 : ∀ u : SubB ws, u.w.cell? ⟨g9, 4, none⟩ = some (.slice A n ca) := fun u => (HV9.out.below u.le).c4
      have D5 : ∀ u : SubB ws, u.w.cell? ⟨g9, 5, none⟩ = some (.slice B m cb) := fun u => (HV9.out.below u.le).c5
      have m1 := fun u (hu : Below ws.heap.size ws u) => mayG_any (HSEG9.out.below hu) (HWS.out.below hu)
      have HNO : Hid (¬ rowAt l q j → R = false) := Lib.hid (fun h => by
        rw [Bool.eq_false_iff]
        intro e
        exact h ((HT.out.1 e).2 j hlt))
      by_cases hma : Sg.may ⟨i, k, f, t, sm, ag⟩
      case neg =>
        rw [decide_eq_false hma] at m1
        have M1 := Lib.hid m1
        have HN : Hid (R = false) := Lib.hid (HNO.out (fun h => hma (hat.1 h).1))
        clear m1 hat hma
        refine wp_region_calm (by kernel_rfl) (by kernel_rfl) ?_
        repeat (go_big_quiet_step ((first | (go_at_call 14; exact calm_call (M1.out _ (SubB.le _))))))
        refine wpQuiet_nil ?_
        rintro _ ⟨u, rfl⟩
        clear D0 D1 D2 D3 D4 D5
        go_wp2
        (try rw [Exit.noGoto_ret])
        go_ret
        exact ⟨by rw [HN.out]; rfl, past HB9.out u.le⟩
      rw [decide_eq_true hma] at m1
      have M1 := Lib.hid m1
      clear m1
      by_cases hti : k = q
      case neg =>
        have hti' : (k == q) = false := by simp [hti]
        have HN : Hid (R = false) := Lib.hid (HNO.out (fun h => hti (hat.1 h).2.1))
        clear hat hma hti
        refine wp_region_calm (by kernel_rfl) (by kernel_rfl) ?_
        repeat (go_big_quiet_step ((first | (go_at_call 14; exact calm_call (M1.out _ (SubB.le _))))))
        refine wpQuiet_nil ?_
        rintro _ ⟨u, rfl⟩
        clear D0 D1 D2 D3 D4 D5
        go_wp2
        (try rw [Exit.noGoto_ret])
        go_ret
        exact ⟨by rw [HN.out]; rfl, past HB9.out u.le⟩
      have hti' : (k == q) = true := by simp [hti]
      have HMA := Lib.hid hma
      have HTI := Lib.hid hti
      clear hma hti
      by_cases hj0 : j = 0
      · have HY : Hid (rowAt l q j) := Lib.hid (hat.2 ⟨HMA.out, HTI.out, fun h => absurd h (by omega)⟩)
        have HR2 : Hid (∀ i, i < j + 1 → rowAt l q i) := Lib.hid (fun i hi => by
          rcases Nat.lt_or_ge i j with h | h
          · exact HR.out i h
          · rw [show i = j by omega]; exact HY.out)
        have hje : ((j : Int) == 0) = true := by simp [hj0]
        have HB0t : Hid (true = B0) := Lib.hid (by rw [HB0.out]; exact (decide_eq_true (by omega)).symm)
        clear hat hj0
        refine wp_region_calm (by kernel_rfl) (by kernel_rfl) ?_
        repeat (go_big_quiet_step ((first | (go_at_call 14; exact calm_call (M1.out _ (SubB.le _))))))
        refine wpQuiet_nil ?_
        rintro _ ⟨u, rfl⟩
        clear D0 D1 D2 D3 D4 D5
        go_wp2
        go_roundw
        case rel => exact ⟨j + 1, by omega, by go_num, by rw [HB0t.out], HR2, Lib.hid (past HB9.out u.le)⟩
        case measure => simp [intOf]; omega
      · have hje : ((j : Int) == 0) = false := by simp; omega
        obtain ⟨A', n', ca', B', m', cb', hs'⟩ := HS9.out (j - 1) (by rw [HL.out]; omega)
        obtain ⟨tz, htz⟩ : ∃ tz, tz = (sgAt l (j - 1)).tz := ⟨_, rfl⟩
        have D6 : ∀ u : SubB ws, u.w.cell? ⟨g, off + (j - 1) * 6 + 3, none⟩ = some (.int .i64 tz) := fun u => by rw [htz]; exact (hs'.below u.le).c3
        rw [← htz] at hat
        have i2 : (1 : Int) ≤ (j : Int) := by omega
        have i3 : (0 : Int) ≤ (j : Int) - 1 := by omega
        have i4 : (j : Int) - 1 < (L : Int) := by omega
        have i5 : ((j : Int) - 1).toNat = j - 1 := by omega
        have i6 : IntKind.i64.wrap ((j : Int) - 1) = (j : Int) - 1 := by rw [IntKind.wrap_i64]; omega
        clear hs' htz
        by_cases hft : f = tz
        case neg =>
          have hft' : (f == tz) = false := by simp [hft]
          have HN : Hid (R = false) := Lib.hid (HNO.out (fun h => hft ((hat.1 h).2.2 (by omega))))
          clear hat hft hj0
          refine wp_region_calm (by kernel_rfl) (by kernel_rfl) ?_
          repeat (go_big_quiet_step ((first | (go_at_call 14; exact calm_call (M1.out _ (SubB.le _))))))
          refine wpQuiet_nil ?_
          rintro _ ⟨u, rfl⟩
          clear D0 D1 D2 D3 D4 D5 D6
          go_wp2
          (try rw [Exit.noGoto_ret])
          go_ret
          exact ⟨by rw [HN.out]; rfl, past HB9.out u.le⟩
        have hft' : (f == tz) = true := by simp [hft]
        have HY : Hid (rowAt l q j) := Lib.hid (hat.2 ⟨HMA.out, HTI.out, fun _ => hft⟩)
        have HR2 : Hid (∀ i, i < j + 1 → rowAt l q i) := Lib.hid (fun i hi => by
          rcases Nat.lt_or_ge i j with h | h
          · exact HR.out i h
          · rw [show i = j by omega]; exact HY.out)
        have HB0t : Hid (true = B0) := Lib.hid (by rw [HB0.out]; exact (decide_eq_true (by omega)).symm)
        clear hat hj0 hft
        refine wp_region_calm (by kernel_rfl) (by kernel_rfl) ?_
        repeat (go_big_quiet_step ((first | (go_at_call 14; exact calm_call (M1.out _ (SubB.le _))))))
        refine wpQuiet_nil ?_
        rintro _ ⟨u, rfl⟩
        clear D0 D1 D2 D3 D4 D5 D6
        go_wp2
        go_roundw
        case rel => exact ⟨j + 1, by omega, by go_num, by rw [HB0t.out], HR2, Lib.hid (past HB9.out u.le)⟩
        case measure => simp [intOf]; omega
    · obtain rfl : j = L := by omega
      have HE : Hid (R = B0) := Lib.hid (by
        rw [HB0.out, Bool.eq_iff_iff, HT.out, decide_eq_true_eq]
        exact ⟨fun h => h.1, fun h => ⟨h, HR.out⟩⟩)
      go_wp2
      (try rw [Exit.noGoto_ret])
      go_ret
      exact ⟨by rw [HE.out]; rfl, HB.out⟩
end Go.Proofs.YtepancmkopifpaaGreatDoor
