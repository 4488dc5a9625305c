/-
  mayId, mayHoldSamples, mayHoldAggs, May of segments: what each returns; nothing that was there is written.
-/
import Derived.Test.YtepancmkopifpaaGreatDoorHRow
import Derived.Test.YtepancmkopifpaaGreatDoorGRoll
import Derived.Test.YtepancmkopifpaaGreatDoorTDownAny
import Derived.Deep.RegionHeld3
set_option maxRecDepth 100000
namespace Go.Proofs.YtepancmkopifpaaGreatDoor
open Go.RowKit
attribute [local go_sem ↓] Go.wp_at_zero Go.wp_at_succ
set_option linter.unusedVariables false

theorem mono_of {n : Nat} {f : Nat → Int} (h : ∀ i, 0 < i → i < n → f (i - 1) < f i) : ∀ (j i : Nat), i ≤ j → j < n → f i ≤ f j
  | 0, i, hi, _ => by rw [show i = 0 by omega]; exact Int.le_refl _
  | j + 1, i, hi, hj => by
    rcases Nat.lt_or_ge i (j + 1) with h1 | h1
    · have h2 := mono_of h j i (by omega) (by omega)
      have h3 := h (j + 1) (by omega) hj
      rw [Nat.add_sub_cancel] at h3
      omega
    · rw [show i = j + 1 by omega]; exact Int.le_refl _
def HasS (f t : Int) (l : List (Int × Int)) : Prop := 0 < l.length ∧ l.length ≤ 64 ∧ Rise l ∧ ∀ x ∈ l, f ≤ x.1 ∧ x.1 < t
def HasA (f t k : Int) (l : List Ag) : Prop := 0 < l.length ∧ l.length ≤ 64 ∧ Align l k ∧ ∀ a ∈ l, flr f k ≤ a.fr ∧ a.fr < t
instance hasSDec (f t : Int) (l : List (Int × Int)) : Decidable (HasS f t l) := by unfold HasS; infer_instance
instance hasADec (f t k : Int) (l : List Ag) : Decidable (HasA f t k l) := by unfold HasA; infer_instance
theorem hasS_ends {f t : Int} {l : List (Int × Int)} {n : Nat} (hn : l.length = n) (h0 : 0 < n) (h64 : n ≤ 64) (hr : Rise l) : HasS f t l ↔ f ≤ (l.getD 0 (0, 0)).1 ∧ (l.getD (n - 1) (0, 0)).1 < t := by
  have hm : ∀ j i, i ≤ j → j < n → (l.getD i (0, 0)).1 ≤ (l.getD j (0, 0)).1 := mono_of (f := fun i => (l.getD i (0, 0)).1) (fun i h1 h2 => (hr i (by omega)).2 h1)
  constructor
  · rintro ⟨_, _, _, h⟩
    exact ⟨(h _ (sample_mem (by omega))).1, (h _ (sample_mem (by omega))).2⟩
  · rintro ⟨h1, h2⟩
    refine ⟨by omega, by omega, hr, fun x hx => ?_⟩
    obtain ⟨i, hi, rfl⟩ := List.mem_iff_getElem.1 hx
    have e : l.getD i (0, 0) = l[i] := by rw [List.getD_eq_getElem?_getD, List.getElem?_eq_getElem hi]; rfl
    have a1 := hm i 0 (by omega) (by omega)
    have a2 := hm (n - 1) i (by omega) (by omega)
    rw [e] at a1 a2
    omega
theorem hasA_ends {f t k : Int} {l : List Ag} {n : Nat} (hn : l.length = n) (h0 : 0 < n) (h64 : n ≤ 64) (hr : Align l k) : HasA f t k l ↔ flr f k ≤ (agAt l 0).fr ∧ (agAt l (n - 1)).fr < t := by
  have hm : ∀ j i, i ≤ j → j < n → (agAt l i).fr ≤ (agAt l j).fr := mono_of (f := fun i => (agAt l i).fr) (fun i h1 h2 => (hr.2 i (by omega)).2.2 h1)
  constructor
  · rintro ⟨_, _, _, h⟩
    exact ⟨(h _ (agg_mem (by omega))).1, (h _ (agg_mem (by omega))).2⟩
  · rintro ⟨h1, h2⟩
    refine ⟨by omega, by omega, hr, fun x hx => ?_⟩
    obtain ⟨i, hi, rfl⟩ := List.mem_iff_getElem.1 hx
    have e : agAt l i = l[i] := by unfold agAt; rw [List.getD_eq_getElem?_getD, List.getElem?_eq_getElem hi]; rfl
    have a1 := hm i 0 (by omega) (by omega)
    have a2 := hm (n - 1) i (by omega) (by omega)
    rw [e] at a1 a2
    omega
theorem may_split (s : Sg) : s.may ↔ (1 ≤ s.id ∧ s.id ≤ 1073741824) ∧ 0 ≤ s.fr ∧ s.fr < s.tz ∧ s.tz ≤ 1099511627776 ∧ (if s.tier = 0 then s.ag.length = 0 ∧ HasS s.fr s.tz s.sm else s.sm.length = 0 ∧ HasA s.fr s.tz s.tier s.ag) := by
  unfold Sg.may Sg.has_
  split
  · next e =>
    constructor
    · rintro ⟨h1, h2, ⟨h3, h4, h5⟩, h6, h7⟩
      exact ⟨h1, h3, h4, h5, by rw [h6]; rfl, h7⟩
    · rintro ⟨h1, h3, h4, h5, h6, h7⟩
      exact ⟨h1, by omega, ⟨h3, h4, h5⟩, List.length_eq_zero_iff.1 h6, h7⟩
  · next e =>
    constructor
    · rintro ⟨h1, h2, ⟨h3, h4, h5⟩, h6, h7⟩
      exact ⟨h1, h3, h4, h5, by rw [h6]; rfl, h7⟩
    · rintro ⟨h1, h3, h4, h5, h6, h7⟩
      have hc := h7.2.2.1.1
      unfold coarse at hc
      exact ⟨h1, by omega, ⟨h3, h4, h5⟩, List.length_eq_zero_iff.1 h6, h7⟩
theorem below_box (w : World) (o : Obj) : Below w.heap.size w (w.alloc o) := (Below.refl _ _).alloc (Nat.le_refl _) _

theorem mayId_any (i : Int) (w : World) (hi : In64 i) : Calls Tryz.prog 35 #[.int .i64 i] w fun e w' => e = .returned (.bool (decide (1 ≤ i ∧ i ≤ 1073741824))) ∧ w = w' := by
  obtain ⟨B, hB⟩ : ∃ B, B = decide (1 ≤ i ∧ i ≤ 1073741824) := ⟨_, rfl⟩
  rw [← hB]
  obtain ⟨l, u⟩ := hi
  have HB := Lib.hid hB
  clear hB
  by_cases h1 : 1 ≤ i
  · by_cases h2 : i ≤ 1073741824
    · go_enter Tryz.func35, Tryz.ntmps35
      go_wp2
      go_ret
      exact ⟨ret_bool (by rw [HB.out]; simp [*]), rfl⟩
    · go_enter Tryz.func35, Tryz.ntmps35
      go_wp2
      go_ret
      exact ⟨ret_bool (by rw [HB.out]; simp [*]), rfl⟩
  · go_enter Tryz.func35, Tryz.ntmps35
    go_wp2
    go_ret
    exact ⟨ret_bool (by rw [HB.out]; exact (decide_eq_false (by omega)).symm), rfl⟩

set_option maxHeartbeats 1000000 in
theorem hasS_any {i k f t : Int} {n m ca cb : Nat} {A B : Option Addr} {l : List (Int × Int)} {w : World} (hr : Row w A ca l) (hn : l.length = n) :
    Calls Tryz.prog 41 #[.agg #[.int .i64 i, .int .i64 k, .int .i64 f, .int .i64 t, .slice A n ca, .slice B m cb]] w fun e w' => e = .returned (.bool (decide (HasS f t l))) ∧ Below w.heap.size w w' := by
  obtain ⟨R, hR⟩ : ∃ R, R = decide (HasS f t l) := ⟨_, rfl⟩
  rw [← hR]
  have HR0 := Lib.hid hR
  obtain ⟨b, hb⟩ : ∃ b, b = decide (Rise l) := ⟨_, rfl⟩
  have m1 := fun w' (h : Below w.heap.size w w') => rising_any hn (hr.samps.below h) (by rw [← hn]; exact hr.le) hr.max
  simp only [← hb] at m1
  have M1 := Lib.hid m1
  have BB := Lib.hid hb
  have HR := Lib.hid hr
  have HN := Lib.hid hn
  have HF : Hid (¬ HasS f t l → R = false) := Lib.hid (fun h => by rw [hR]; exact decide_eq_false h)
  clear hR hb m1 hr hn
  by_cases c1 : (n : Int) < 1
  · have HN' : Hid (R = false) := Lib.hid (HF.out (fun h => by have := h.1; have := HN.out; omega))
    go_enter Tryz.func41, Tryz.ntmps41
    go_wp2
    (try simp only [Exit.inBlock, Exit.then])
    go_ret
    exact ⟨by rw [HN'.out]; rfl, below_box _ _⟩
  by_cases c3 : (n : Int) > 64
  · have HN' : Hid (R = false) := Lib.hid (HF.out (fun h => by have := h.2.1; have := HN.out; omega))
    go_enter Tryz.func41, Tryz.ntmps41
    go_wp2
    (try simp only [Exit.inBlock, Exit.then])
    go_ret
    exact ⟨by rw [HN'.out]; rfl, below_box _ _⟩
  cases b
  · have HN' : Hid (R = false) := Lib.hid (HF.out (fun h => by have h1 := h.2.2.1; have h2 := BB.out; rw [decide_eq_true h1] at h2; cases h2))
    go_enter Tryz.func41, Tryz.ntmps41
    go_wp2_with fail
    refine (M1.out _ (below_box _ _)).mono ?_
    rintro e w2 ⟨rfl, hb2⟩
    have HB2 := Lib.hid (past (below_box _ _) hb2)
    clear hb2
    go_wp2
    (try simp only [Exit.inBlock, Exit.then])
    go_ret
    exact ⟨by rw [HN'.out]; rfl, HB2.out⟩
  · have hrise : Hid (Rise l) := Lib.hid (of_decide_eq_true BB.out.symm)
    clear HF
    have hpos : 0 < n := by omega
    obtain ⟨b, off, hA, hcell⟩ := HR.out.samps.2 (by rw [HN.out]; omega)
    subst hA
    obtain ⟨t0, ht0⟩ : ∃ t0, t0 = (l.getD 0 (0, 0)).1 := ⟨_, rfl⟩
    obtain ⟨t1, ht1⟩ : ∃ t1, t1 = (l.getD (n - 1) (0, 0)).1 := ⟨_, rfl⟩
    have hq0 := (hcell 0 (by rw [HN.out]; omega)).1
    have hq1 := (hcell (n - 1) (by rw [HN.out]; omega)).1
    rw [← ht0] at hq0
    rw [← ht1] at hq1
    have HB' : Hid (R = (decide (f ≤ t0) && decide (t1 < t))) := Lib.hid (by
      rw [HR0.out, Bool.eq_iff_iff, Bool.and_eq_true, decide_eq_true_eq, decide_eq_true_eq, decide_eq_true_eq, hasS_ends HN.out hpos (by omega) hrise.out, ← ht0, ← ht1])
    have Q0 := Lib.hid hq0
    have Q1 := Lib.hid hq1
    clear hcell hq0 hq1 ht0 ht1 HR0 BB HR HN
    have h0i : (0 : Int) < (n : Int) := by omega
    go_enter Tryz.func41, Tryz.ntmps41
    go_wp2_with fail
    refine (M1.out _ (below_box _ _)).mono ?_
    rintro e w2 ⟨rfl, hb2⟩
    have HB2 := Lib.hid (past (below_box _ _) hb2)
    have d2 : w2.cell? ⟨w.heap.size, 2, none⟩ = some (.int .i64 f) := by rw [hb2.cell (by simp)]; simp
    have d3 : w2.cell? ⟨w.heap.size, 3, none⟩ = some (.int .i64 t) := by rw [hb2.cell (by simp)]; simp
    have d4 : w2.cell? ⟨w.heap.size, 4, none⟩ = some (.slice (some ⟨b, off, none⟩) n ca) := by rw [hb2.cell (by simp)]; simp
    have q0 : w2.cell? ⟨b, off + 0 * 2, none⟩ = some (.int .i64 t0) := by rw [HB2.out.cell (World.block_lt_of_cell? w _ Q0.out)]; exact Q0.out
    have q1 : w2.cell? ⟨b, off + (n - 1) * 2, none⟩ = some (.int .i64 t1) := by rw [HB2.out.cell (World.block_lt_of_cell? w _ Q1.out)]; exact Q1.out
    rw [Nat.zero_mul, Nat.add_zero] at q0
    clear hb2 Q0 Q1 M1
    have i1 : (1 : Int) ≤ (n : Int) := by omega
    have i3 : (0 : Int) ≤ (n : Int) - 1 := by omega
    have i4 : (n : Int) - 1 < (n : Int) := by omega
    have i5 : ((n : Int) - 1).toNat = n - 1 := by omega
    have i6 : IntKind.i64.wrap ((n : Int) - 1) = (n : Int) - 1 := by rw [IntKind.wrap_i64]; omega
    go_upto_region 4 with fail
    by_cases k1 : f ≤ t0
    · have k1' : decide (f ≤ t0) = true := decide_eq_true k1
      have HB3 : Hid (R = decide (t1 < t)) := Lib.hid (by rw [HB'.out, k1', Bool.true_and])
      clear HB'
      go_quiet (fail)
      go_wp2
      go_ret
      exact ⟨by rw [HB3.out]; rfl, past HB2.out (belowN _ _)⟩
    · have k1' : decide (f ≤ t0) = false := decide_eq_false k1
      have HB3 : Hid (R = false) := Lib.hid (by rw [HB'.out, k1', Bool.false_and])
      clear HB'
      go_quiet (fail)
      go_wp2
      go_ret
      exact ⟨by rw [HB3.out]; rfl, past HB2.out (belowN _ _)⟩

set_option maxHeartbeats 1000000 in
theorem hasA_any {i k f t : Int} {n m ca cb : Nat} {A B : Option Addr} {l : List Ag} {w : World} (hr : RowOf w B m cb l) (hk : In64 k) (hf : In64 f) (hw : Wid w) :
    Calls Tryz.prog 42 #[.agg #[.int .i64 i, .int .i64 k, .int .i64 f, .int .i64 t, .slice A n ca, .slice B m cb]] w fun e w' => e = .returned (.bool (decide (HasA f t k l))) ∧ Below w.heap.size w w' := by
  have hn := hr.1
  obtain ⟨R, hR⟩ : ∃ R, R = decide (HasA f t k l) := ⟨_, rfl⟩
  rw [← hR]
  have HR0 := Lib.hid hR
  obtain ⟨b, hb⟩ : ∃ b, b = decide (Align l k) := ⟨_, rfl⟩
  have m1 := fun w' (h : Below w.heap.size w w') => aligned_any k hn (hr.2.1.below h) hr.2.2.1 hr.2.2.2.1 hk (hw.below h)
  simp only [← hb] at m1
  have M1 := Lib.hid m1
  obtain ⟨F, hF⟩ : ∃ F, F = flr f k := ⟨_, rfl⟩
  have m2 := fun w' (h : Below w.heap.size w w') => floor_any f k w' hf hk (hw.below h)
  simp only [← hF] at m2
  have M2 := Lib.hid m2
  have FF := Lib.hid hF
  have BB := Lib.hid hb
  have HR := Lib.hid hr
  have HN := Lib.hid hn
  have HF : Hid (¬ HasA f t k l → R = false) := Lib.hid (fun h => by rw [hR]; exact decide_eq_false h)
  clear hR hb m1 m2 hr hn hF hw hk hf
  by_cases c1 : (m : Int) < 1
  · have HN' : Hid (R = false) := Lib.hid (HF.out (fun h => by have := h.1; have := HN.out; omega))
    go_enter Tryz.func42, Tryz.ntmps42
    go_wp2
    (try simp only [Exit.inBlock, Exit.then])
    go_ret
    exact ⟨by rw [HN'.out]; rfl, below_box _ _⟩
  by_cases c3 : (m : Int) > 64
  · have HN' : Hid (R = false) := Lib.hid (HF.out (fun h => by have := h.2.1; have := HN.out; omega))
    go_enter Tryz.func42, Tryz.ntmps42
    go_wp2
    (try simp only [Exit.inBlock, Exit.then])
    go_ret
    exact ⟨by rw [HN'.out]; rfl, below_box _ _⟩
  cases b
  · have HN' : Hid (R = false) := Lib.hid (HF.out (fun h => by have h1 := h.2.2.1; have h2 := BB.out; rw [decide_eq_true h1] at h2; cases h2))
    go_enter Tryz.func42, Tryz.ntmps42
    go_wp2_with fail
    refine (M1.out _ (below_box _ _)).mono ?_
    rintro e w2 ⟨rfl, hb2⟩
    have HB2 := Lib.hid (past (below_box _ _) hb2)
    clear hb2
    go_wp2
    (try simp only [Exit.inBlock, Exit.then])
    go_ret
    exact ⟨by rw [HN'.out]; rfl, HB2.out⟩
  · have hrise : Hid (Align l k) := Lib.hid (of_decide_eq_true BB.out.symm)
    clear HF
    have hpos : 0 < m := by omega
    obtain ⟨b, off, hA, hcell⟩ := HR.out.2.1.2 (by rw [HN.out]; omega)
    subst hA
    obtain ⟨t0, ht0⟩ : ∃ t0, t0 = (agAt l 0).fr := ⟨_, rfl⟩
    obtain ⟨t1, ht1⟩ : ∃ t1, t1 = (agAt l (m - 1)).fr := ⟨_, rfl⟩
    have hq0 := (hcell 0 (by rw [HN.out]; omega)).1
    have hq1 := (hcell (m - 1) (by rw [HN.out]; omega)).1
    rw [← ht0] at hq0
    rw [← ht1] at hq1
    have HB' : Hid (R = (decide (F ≤ t0) && decide (t1 < t))) := Lib.hid (by
      rw [HR0.out, Bool.eq_iff_iff, Bool.and_eq_true, decide_eq_true_eq, decide_eq_true_eq, decide_eq_true_eq, hasA_ends HN.out hpos (by omega) hrise.out, ← ht0, ← ht1, FF.out])
    have Q0 := Lib.hid hq0
    have Q1 := Lib.hid hq1
    clear hcell hq0 hq1 ht0 ht1 HR0 BB HR HN
    have h0i : (0 : Int) < (m : Int) := by omega
    go_enter Tryz.func42, Tryz.ntmps42
    go_wp2_with fail
    refine (M1.out _ (below_box _ _)).mono ?_
    rintro e w2 ⟨rfl, hb2⟩
    have HB2 := Lib.hid (past (below_box _ _) hb2)
    have d1 : w2.cell? ⟨w.heap.size, 1, none⟩ = some (.int .i64 k) := by rw [hb2.cell (by simp)]; simp
    have d2 : w2.cell? ⟨w.heap.size, 2, none⟩ = some (.int .i64 f) := by rw [hb2.cell (by simp)]; simp
    have d3 : w2.cell? ⟨w.heap.size, 3, none⟩ = some (.int .i64 t) := by rw [hb2.cell (by simp)]; simp
    have d5 : w2.cell? ⟨w.heap.size, 5, none⟩ = some (.slice (some ⟨b, off, none⟩) m cb) := by rw [hb2.cell (by simp)]; simp
    have q0 : w2.cell? ⟨b, off + 0 * 7, none⟩ = some (.int .i64 t0) := by rw [HB2.out.cell (World.block_lt_of_cell? w _ Q0.out)]; exact Q0.out
    have q1 : w2.cell? ⟨b, off + (m - 1) * 7, none⟩ = some (.int .i64 t1) := by rw [HB2.out.cell (World.block_lt_of_cell? w _ Q1.out)]; exact Q1.out
    rw [Nat.zero_mul, Nat.add_zero] at q0
    have M3 : Hid (∀ n, Calls Tryz.prog 76 #[.int .i64 f, .int .i64 k] (w2.drewN n) fun e w' => e = .returned (.int .i64 F) ∧ w2.drewN n = w') := Lib.hid (fun n => M2.out _ (past HB2.out (belowN _ _)))
    clear hb2 Q0 Q1 M1 M2
    have i1 : (1 : Int) ≤ (m : Int) := by omega
    have i3 : (0 : Int) ≤ (m : Int) - 1 := by omega
    have i4 : (m : Int) - 1 < (m : Int) := by omega
    have i5 : ((m : Int) - 1).toNat = m - 1 := by omega
    have i6 : IntKind.i64.wrap ((m : Int) - 1) = (m : Int) - 1 := by rw [IntKind.wrap_i64]; omega
    go_upto_region 4 with fail
    by_cases k1 : F ≤ t0
    · have k1' : decide (F ≤ t0) = true := decide_eq_true k1
      have HB3 : Hid (R = decide (t1 < t)) := Lib.hid (by rw [HB'.out, k1', Bool.true_and])
      clear HB'
      go_quiet (exact quiet_same (M3.out _))
      go_wp2
      go_ret
      exact ⟨by rw [HB3.out]; rfl, past HB2.out (belowN _ _)⟩
    · have k1' : decide (F ≤ t0) = false := decide_eq_false k1
      have HB3 : Hid (R = false) := Lib.hid (by rw [HB'.out, k1', Bool.false_and])
      clear HB'
      go_quiet (exact quiet_same (M3.out _))
      go_wp2
      go_ret
      exact ⟨by rw [HB3.out]; rfl, past HB2.out (belowN _ _)⟩

/-- What a segment reads as, in a world. -/
structure SegAt (w : World) (s : Sg) (A : Option Addr) (n ca : Nat) (B : Option Addr) (m cb : Nat) : Prop where
  sm : Row w A ca s.sm
  sn : s.sm.length = n
  ag : RowOf w B m cb s.ag
  ok : s.ok
theorem SegAt.below {w w' : World} {s : Sg} {A : Option Addr} {n ca : Nat} {B : Option Addr} {m cb : Nat} (h : SegAt w s A n ca B m cb) (hb : Below w.heap.size w w') : SegAt w' s A n ca B m cb :=
  ⟨h.sm.below hb, h.sn, ⟨h.ag.1, h.ag.2.1.below hb, h.ag.2.2⟩, h.ok⟩

set_option maxHeartbeats 1000000 in
theorem mayG_any {i k f t : Int} {n m ca cb : Nat} {A B : Option Addr} {sm : List (Int × Int)} {ag : List Ag} {w : World} (h : SegAt w ⟨i, k, f, t, sm, ag⟩ A n ca B m cb) (hw : Wid w) :
    Calls Tryz.prog 14 #[.agg #[.int .i64 i, .int .i64 k, .int .i64 f, .int .i64 t, .slice A n ca, .slice B m cb]] w fun e w' => e = .returned (.bool (decide (Sg.may ⟨i, k, f, t, sm, ag⟩))) ∧ Below w.heap.size w w' := by
  obtain ⟨R, hR⟩ : ∃ R, R = decide (Sg.may ⟨i, k, f, t, sm, ag⟩) := ⟨_, rfl⟩
  rw [← hR]
  have hR' : R = decide ((1 ≤ i ∧ i ≤ 1073741824) ∧ 0 ≤ f ∧ f < t ∧ t ≤ 1099511627776 ∧ (if k = 0 then ag.length = 0 ∧ HasS f t sm else sm.length = 0 ∧ HasA f t k ag)) := by
    rw [hR, decide_eq_decide]; exact may_split _
  have HF : Hid (R = true ↔ (1 ≤ i ∧ i ≤ 1073741824) ∧ 0 ≤ f ∧ f < t ∧ t ≤ 1099511627776 ∧ (if k = 0 then ag.length = 0 ∧ HasS f t sm else sm.length = 0 ∧ HasA f t k ag)) := Lib.hid (by rw [hR', decide_eq_true_eq])
  obtain ⟨o1, o2, o3, o4, o5, o6⟩ := h.ok
  simp only at o1 o2 o3 o4
  have hm := h.ag.1
  have hn := h.sn
  obtain ⟨b1, hb1⟩ : ∃ b, b = decide (1 ≤ i ∧ i ≤ 1073741824) := ⟨_, rfl⟩
  obtain ⟨b2, hb2⟩ : ∃ b, b = decide (HasS f t sm) := ⟨_, rfl⟩
  obtain ⟨b3, hb3⟩ : ∃ b, b = decide (HasA f t k ag) := ⟨_, rfl⟩
  have m1 := fun w' => mayId_any i w' o1
  have m2 := fun w' (h' : Below w.heap.size w w') => hasS_any (i := i) (k := k) (f := f) (t := t) (m := m) (cb := cb) (B := B) (h.sm.below h') h.sn
  have m3 := fun w' (h' : Below w.heap.size w w') => hasA_any (i := i) (k := k) (f := f) (t := t) (n := n) (ca := ca) (A := A) (h.below h').ag o2 o3 (hw.below h')
  simp only [← hb1] at m1
  simp only [← hb2] at m2
  simp only [← hb3] at m3
  have M1 := Lib.hid m1
  have M2 := Lib.hid m2
  have M3 := Lib.hid m3
  have B1 := Lib.hid hb1
  have B2 := Lib.hid hb2
  have B3 := Lib.hid hb3
  have HN := Lib.hid hn
  have HM := Lib.hid hm
  clear h hR hR' m1 m2 m3 hb1 hb2 hb3 o1 o2 o3 o4 o5 o6 hm hn hw
  cases b1
  · have HN' : Hid (R = false) := Lib.hid (by rw [Bool.eq_false_iff]; intro e; have h1 := (HF.out.1 e).1; have := B1.out; rw [decide_eq_true h1] at this; cases this)
    go_enter Tryz.func14, Tryz.ntmps14
    go_wp2_with fail
    refine (M1.out _).mono ?_
    rintro e w2 ⟨rfl, rfl⟩
    go_wp2
    (try simp only [Exit.inBlock, Exit.then])
    go_ret
    exact ⟨by rw [HN'.out]; rfl, below_box _ _⟩
  have C1 : Hid (1 ≤ i ∧ i ≤ 1073741824) := Lib.hid (of_decide_eq_true B1.out.symm)
  by_cases c2 : f < 0
  · have HN' : Hid (R = false) := Lib.hid (by rw [Bool.eq_false_iff]; intro e; have h1 := (HF.out.1 e).2.1; omega)
    go_enter Tryz.func14, Tryz.ntmps14
    go_wp2_with fail
    refine (M1.out _).mono ?_
    rintro e w2 ⟨rfl, rfl⟩
    go_wp2
    (try simp only [Exit.inBlock, Exit.then])
    go_ret
    exact ⟨by rw [HN'.out]; rfl, below_box _ _⟩
  by_cases c3 : f ≥ t
  · have HN' : Hid (R = false) := Lib.hid (by rw [Bool.eq_false_iff]; intro e; have h1 := (HF.out.1 e).2.2.1; omega)
    go_enter Tryz.func14, Tryz.ntmps14
    go_wp2_with fail
    refine (M1.out _).mono ?_
    rintro e w2 ⟨rfl, rfl⟩
    go_wp2
    (try simp only [Exit.inBlock, Exit.then])
    go_ret
    exact ⟨by rw [HN'.out]; rfl, below_box _ _⟩
  by_cases c4 : t > 1099511627776
  · have HN' : Hid (R = false) := Lib.hid (by rw [Bool.eq_false_iff]; intro e; have h1 := (HF.out.1 e).2.2.2.1; omega)
    go_enter Tryz.func14, Tryz.ntmps14
    go_wp2_with fail
    refine (M1.out _).mono ?_
    rintro e w2 ⟨rfl, rfl⟩
    go_wp2
    (try simp only [Exit.inBlock, Exit.then])
    go_ret
    exact ⟨by rw [HN'.out]; rfl, below_box _ _⟩
  by_cases c5 : k = 0
  · have c5' : (k == 0) = true := by simp [c5]
    have HF2 : Hid (R = (decide (m = 0) && b2)) := Lib.hid (by
      rw [Bool.eq_iff_iff, HF.out, Bool.and_eq_true, B2.out, decide_eq_true_eq, decide_eq_true_eq, if_pos c5, HM.out]
      have := C1.out
      constructor
      · rintro ⟨_, _, _, _, h⟩; exact h
      · intro h; exact ⟨C1.out, by omega, by omega, by omega, h⟩)
    clear c5 HF B1 B2 B3 HN HM
    by_cases c6 : m = 0
    · have c6' : ((m : Int) == 0) = true := by simp [c6]
      have HF3 : Hid (R = b2) := Lib.hid (by rw [HF2.out, decide_eq_true c6, Bool.true_and])
      clear c6 HF2
      go_enter Tryz.func14, Tryz.ntmps14
      go_wp2_with fail
      refine (M1.out _).mono ?_
      rintro e w2 ⟨rfl, rfl⟩
      go_wp2_with fail
      refine (M2.out _ (below_box _ _)).mono ?_
      rintro e w2 ⟨rfl, hb2⟩
      have HB2 := Lib.hid (past (below_box _ _) hb2)
      clear hb2
      go_wp2
      (try simp only [Exit.inBlock, Exit.then])
      go_ret
      exact ⟨by rw [HF3.out]; rfl, HB2.out⟩
    · have c6' : ((m : Int) == 0) = false := by simp [c6]
      have HF3 : Hid (R = false) := Lib.hid (by rw [HF2.out, decide_eq_false c6, Bool.false_and])
      clear c6 HF2
      go_enter Tryz.func14, Tryz.ntmps14
      go_wp2_with fail
      refine (M1.out _).mono ?_
      rintro e w2 ⟨rfl, rfl⟩
      go_wp2
      (try simp only [Exit.inBlock, Exit.then])
      go_ret
      exact ⟨by rw [HF3.out]; rfl, below_box _ _⟩
  · have c5' : (k == 0) = false := by simp [c5]
    have HF2 : Hid (R = (decide (n = 0) && b3)) := Lib.hid (by
      rw [Bool.eq_iff_iff, HF.out, Bool.and_eq_true, B3.out, decide_eq_true_eq, decide_eq_true_eq, if_neg c5, HN.out]
      have := C1.out
      constructor
      · rintro ⟨_, _, _, _, h⟩; exact h
      · intro h; exact ⟨C1.out, by omega, by omega, by omega, h⟩)
    clear c5 HF B1 B2 B3 HN HM
    by_cases c6 : n = 0
    · have c6' : ((n : Int) == 0) = true := by simp [c6]
      have HF3 : Hid (R = b3) := Lib.hid (by rw [HF2.out, decide_eq_true c6, Bool.true_and])
      clear c6 HF2
      go_enter Tryz.func14, Tryz.ntmps14
      go_wp2_with fail
      refine (M1.out _).mono ?_
      rintro e w2 ⟨rfl, rfl⟩
      go_wp2_with fail
      refine (M3.out _ (below_box _ _)).mono ?_
      rintro e w2 ⟨rfl, hb2⟩
      have HB2 := Lib.hid (past (below_box _ _) hb2)
      clear hb2
      go_wp2
      (try simp only [Exit.inBlock, Exit.then])
      go_ret
      exact ⟨by rw [HF3.out]; rfl, HB2.out⟩
    · have c6' : ((n : Int) == 0) = false := by simp [c6]
      have HF3 : Hid (R = false) := Lib.hid (by rw [HF2.out, decide_eq_false c6, Bool.false_and])
      clear c6 HF2
      go_enter Tryz.func14, Tryz.ntmps14
      go_wp2_with fail
      refine (M1.out _).mono ?_
      rintro e w2 ⟨rfl, rfl⟩
      go_wp2
      (try simp only [Exit.inBlock, Exit.then])
      go_ret
      exact ⟨by rw [HF3.out]; rfl, below_box _ _⟩
end Go.Proofs.YtepancmkopifpaaGreatDoor
