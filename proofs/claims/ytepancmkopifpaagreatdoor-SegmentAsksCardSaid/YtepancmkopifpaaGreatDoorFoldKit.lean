/-
  The functions that call none: mayBegin, mayCount, Add, One, mayHold, isAlike: what each returns at every argument; nothing that was there is written.
  Width, mayTime, Floor, isCoarse: what each returns at every argument, where the widths lie as the program lays them; nothing is written.
  May and Join: what each returns at every argument; nothing that was there is written.
  All: what it returns at every row of samples and every beginning; nothing that was there is written.
  All of one sample, of none, of any; what told tells: true, and nothing that was there is written.
  What walks over samples and aggregates share: worlds that only grew, a variable that is made, an argument's range and form, rows that a call makes for itself, values up to a billion.
-/
import Derived.Test.YtepancmkopifpaaGreatDoorProg
import Derived.Test.YtepancmkopifpaaGreatDoorTMath
import Derived.WalkKit
import Derived.Lib.Hide
import Derived.Deep.AppendLies
import Derived.Deep.LoopGhost
import Derived.Deep.QuietTactic
import Derived.BigQuiet
import Derived.Deep.DeepCutAuto
import Derived.Laws.ResultCell
import Derived.Laws.Cover1
import Derived.Lib.MinMax
import Derived.Deep.RegionHeld3
import Derived.Deep.DrawnRows
import Derived.Deep.SlicePairs
import Derived.Deep.Fields
import Derived.OpenShut
import Derived.Laws.AppendOwnNone
namespace Go.Proofs.YtepancmkopifpaaGreatDoor
open Go.RowKit

def Ag.val (a : Ag) : Value := .agg #[.int .i64 a.fr, .int .i64 a.cn, .int .i64 a.sm, .int .i64 a.mn, .int .i64 a.mx, .int .i64 a.fi, .int .i64 a.la]
theorem ret_bool {a b : Bool} (h : a = b) : Ending.returned (.bool a) = .returned (.bool b) := by rw [h]

theorem begin_any (f : Int) (w : World) (hf : In64 f) : Calls Tryz.prog 99 #[.int .i64 f] w fun e w' => e = .returned (.bool (decide (Ag.begin_ f))) ∧ w = w' := by
  obtain ⟨B, hB⟩ : ∃ B, B = decide (Ag.begin_ f) := ⟨_, rfl⟩
  rw [← hB]
  unfold Ag.begin_ at hB
  obtain ⟨l, u⟩ := hf
  have HB := Lib.hid hB
  clear hB
  by_cases h1 : 0 ≤ f
  · by_cases h2 : f ≤ 1099511627776
    · go_enter Tryz.func99, Tryz.ntmps99
      go_wp2
      go_ret
      exact ⟨ret_bool (by rw [HB.out]; simp [*]), rfl⟩
    · go_enter Tryz.func99, Tryz.ntmps99
      go_wp2
      go_ret
      exact ⟨ret_bool (by rw [HB.out]; simp [*]), rfl⟩
  · go_enter Tryz.func99, Tryz.ntmps99
    go_wp2
    go_ret
    exact ⟨ret_bool (by rw [HB.out]; exact (decide_eq_false (by omega)).symm), rfl⟩

theorem count_any (f : Int) (w : World) (hf : In64 f) : Calls Tryz.prog 100 #[.int .i64 f] w fun e w' => e = .returned (.bool (decide (Ag.count f))) ∧ w = w' := by
  obtain ⟨B, hB⟩ : ∃ B, B = decide (Ag.count f) := ⟨_, rfl⟩
  rw [← hB]
  unfold Ag.count at hB
  obtain ⟨l, u⟩ := hf
  have HB := Lib.hid hB
  clear hB
  by_cases h1 : 1 ≤ f
  · by_cases h2 : f ≤ 1099511627776
    · go_enter Tryz.func100, Tryz.ntmps100
      go_wp2
      go_ret
      exact ⟨ret_bool (by rw [HB.out]; simp [*]), rfl⟩
    · go_enter Tryz.func100, Tryz.ntmps100
      go_wp2
      go_ret
      exact ⟨ret_bool (by rw [HB.out]; simp [*]), rfl⟩
  · go_enter Tryz.func100, Tryz.ntmps100
    go_wp2
    go_ret
    exact ⟨ret_bool (by rw [HB.out]; exact (decide_eq_false (by omega)).symm), rfl⟩

set_option linter.unusedVariables false
theorem add_in (a b : Int) (w : World) (ha : In64 a) (hb : In64 b) (hs : In64 (a + b)) :
    Calls Tryz.prog 101 #[.int .i64 a, .int .i64 b] w fun e w' => e = .returned (.tuple #[.int .i64 (a + b), .bool true]) ∧ w = w' := by
  unfold In64 at *
  obtain ⟨S, hS⟩ : ∃ S, S = a + b := ⟨_, rfl⟩
  have hw : IntKind.i64.wrap (a + b) = S := by rw [IntKind.wrap_i64]; omega
  rw [← hS]
  by_cases h : b < 0
  · have h1 : S < a := by omega
    clear hS hs
    go_enter Tryz.func101, Tryz.ntmps101
    go_wp2
    go_ret2
    exact ⟨rfl, rfl⟩
  · have h1 : ¬ S < a := by omega
    clear hS hs
    go_enter Tryz.func101, Tryz.ntmps101
    go_wp2
    go_ret2
    exact ⟨rfl, rfl⟩
theorem add_out (a b : Int) (w : World) (ha : In64 a) (hb : In64 b) (hs : ¬ In64 (a + b)) :
    Calls Tryz.prog 101 #[.int .i64 a, .int .i64 b] w fun e w' => e = .returned (.tuple #[.int .i64 0, .bool false]) ∧ w = w' := by
  unfold In64 at *
  obtain ⟨S, hw⟩ : ∃ S, IntKind.i64.wrap (a + b) = S := ⟨_, rfl⟩
  have hS := hw
  rw [IntKind.wrap_i64] at hS
  by_cases h : b < 0
  · have h1 : ¬ S < a := by omega
    clear hS hs
    go_enter Tryz.func101, Tryz.ntmps101
    go_wp2
    go_ret2
    exact ⟨rfl, rfl⟩
  · have h1 : S < a := by omega
    clear hS hs
    go_enter Tryz.func101, Tryz.ntmps101
    go_wp2
    go_ret2
    exact ⟨rfl, rfl⟩

theorem one_any (t v f : Int) (w : World) (hv : In64 v) (hf : In64 f) :
    Calls Tryz.prog 98 #[.agg #[.int .i64 t, .int .i64 v], .int .i64 f] w fun e w' => e = .returned (Ag.one v f).val ∧ Below w.heap.size w w' := by
  unfold In64 at *
  unfold Ag.one Ag.val
  go_enter Tryz.func98, Tryz.ntmps98
  go_wp2
  (try simp only [Exit.inBlock, Exit.then])
  refine bodyPost_ret (v := .agg #[.int .i64 f, .int .i64 1, .int .i64 v, .int .i64 v, .int .i64 v, .int .i64 v, .int .i64 v]) ?_ rfl ⟨rfl, ?_⟩
  · simp [results, Tryz.results98, go_sem]
  · exact ((Below.refl _ _).alloc (Nat.le_refl _) _).alloc (by simp) _
theorem min2 (ts : Array TypeId) (t : TypeId) (x y : Int) (W : World) : (Builtin.min_ ts t #[.int .i64 x, .int .i64 y]).run Tryz.prog W = .ok (.int .i64 (min x y)) W := Lib.run_min_ints W ts t .i64 .i64 x y
theorem max2 (ts : Array TypeId) (t : TypeId) (x y : Int) (W : World) : (Builtin.max_ ts t #[.int .i64 x, .int .i64 y]).run Tryz.prog W = .ok (.int .i64 (max x y)) W := Lib.run_max_ints W ts t .i64 .i64 x y
theorem min3 (ts : Array TypeId) (t : TypeId) (x y z : Int) (W : World) : (Builtin.min_ ts t #[.int .i64 x, .int .i64 y, .int .i64 z]).run Tryz.prog W = .ok (.int .i64 (min (min x y) z)) W := by
  rw [run_min_int3]
  congr 2
  rw [Int.min_def, Int.min_def]
  split <;> split <;> split <;> (try split) <;> omega

theorem hold_any (a : Ag) (w : World) (ha : a.ok) : Calls Tryz.prog 102 #[a.val] w fun e w' => e = .returned (.bool (decide a.hold)) ∧ Below w.heap.size w w' := by
  obtain ⟨fr, cn, sm, mn, mx, fi, la⟩ := a
  obtain ⟨B, hB⟩ : ∃ B, B = decide (Ag.hold ⟨fr, cn, sm, mn, mx, fi, la⟩) := ⟨_, rfl⟩
  rw [← hB]
  unfold Ag.hold at hB
  simp only at hB
  unfold Ag.val
  have HB := Lib.hid hB
  clear hB ha
  have hm := fun ts t => min3 ts t fi la mx
  have hx := fun ts t => max2 ts t fi la
  obtain ⟨M, hM⟩ : ∃ M, M = min (min fi la) mx := ⟨_, rfl⟩
  obtain ⟨X, hX⟩ : ∃ X, X = max fi la := ⟨_, rfl⟩
  simp only [← hM, ← hX] at hm hx
  have HM := Lib.hid hM
  have HX := Lib.hid hX
  clear hM hX
  by_cases h1 : mn ≤ M
  · by_cases h2 : X ≤ mx
    · go_enter Tryz.func102, Tryz.ntmps102
      go_wp2
      go_ret
      have e1 := HM.out
      have e2 := HX.out
      exact ⟨ret_bool (by rw [HB.out]; exact (decide_eq_true (by omega)).symm), (Below.refl _ _).alloc (Nat.le_refl _) _⟩
    · go_enter Tryz.func102, Tryz.ntmps102
      go_wp2
      go_ret
      have e1 := HM.out
      have e2 := HX.out
      exact ⟨ret_bool (by rw [HB.out]; exact (decide_eq_false (by omega)).symm), (Below.refl _ _).alloc (Nat.le_refl _) _⟩
  · go_enter Tryz.func102, Tryz.ntmps102
    go_wp2
    go_ret
    have e1 := HM.out
    have e2 := HX.out
    exact ⟨ret_bool (by rw [HB.out]; exact (decide_eq_false (by omega)).symm), (Below.refl _ _).alloc (Nat.le_refl _) _⟩

theorem alike_any (a : Ag) (w : World) (ha : a.ok) : Calls Tryz.prog 103 #[a.val] w fun e w' => e = .returned (.bool (decide a.alike)) ∧ Below w.heap.size w w' := by
  obtain ⟨fr, cn, sm, mn, mx, fi, la⟩ := a
  obtain ⟨B, hB⟩ : ∃ B, B = decide (Ag.alike ⟨fr, cn, sm, mn, mx, fi, la⟩) := ⟨_, rfl⟩
  rw [← hB]
  unfold Ag.alike at hB
  simp only at hB
  unfold Ag.val
  have HB := Lib.hid hB
  clear hB ha
  obtain ⟨b1, h1⟩ : ∃ b1, (sm == mn) = b1 := ⟨_, rfl⟩
  obtain ⟨b2, h2⟩ : ∃ b2, (mn == mx) = b2 := ⟨_, rfl⟩
  obtain ⟨b3, h3⟩ : ∃ b3, (mx == fi) = b3 := ⟨_, rfl⟩
  obtain ⟨b4, h4⟩ : ∃ b4, (fi == la) = b4 := ⟨_, rfl⟩
  have HE : Hid (B = (b1 && b2 && b3 && b4)) := Lib.hid (by
    rw [HB.out, ← h1, ← h2, ← h3, ← h4, Bool.eq_iff_iff]
    simp only [Bool.and_eq_true, beq_iff_eq, and_assoc]
    exact decide_eq_true_iff)
  clear HB
  cases b1
  · go_enter Tryz.func103, Tryz.ntmps103
    go_wp2
    go_ret
    exact ⟨ret_bool HE.out.symm, (Below.refl _ _).alloc (Nat.le_refl _) _⟩
  cases b2
  · go_enter Tryz.func103, Tryz.ntmps103
    go_wp2
    go_ret
    exact ⟨ret_bool HE.out.symm, (Below.refl _ _).alloc (Nat.le_refl _) _⟩
  cases b3
  · go_enter Tryz.func103, Tryz.ntmps103
    go_wp2
    go_ret
    exact ⟨ret_bool HE.out.symm, (Below.refl _ _).alloc (Nat.le_refl _) _⟩
  cases b4
  · go_enter Tryz.func103, Tryz.ntmps103
    go_wp2
    go_ret
    exact ⟨ret_bool HE.out.symm, (Below.refl _ _).alloc (Nat.le_refl _) _⟩
  go_enter Tryz.func103, Tryz.ntmps103
  go_wp2
  go_ret
  exact ⟨ret_bool HE.out.symm, (Below.refl _ _).alloc (Nat.le_refl _) _⟩
end Go.Proofs.YtepancmkopifpaaGreatDoor
namespace Go.Proofs.YtepancmkopifpaaGreatDoor
open Go.RowKit

/-- The table of widths lies as the program lays it. -/
def Wid (w : World) : Prop := ∀ i : Nat, i < 4 → w.cell? ⟨0, i, none⟩ = some (.int .i64 (wid (i : Int)))
theorem Wid.below {w w' : World} (h : Wid w) (hb : Below w.heap.size w w') : Wid w' := fun i hi => by
  rw [hb.cell (World.block_lt_of_cell? w _ (h i hi))]; exact h i hi

theorem width_any (k : Int) (w : World) (hk : In64 k) (hw : Wid w) : Calls Tryz.prog 80 #[.int .i64 k] w fun e w' => e = .returned (.int .i64 (wid k)) ∧ w = w' := by
  by_cases h1 : k < 0
  · rw [wid_none (.inl h1)]
    go_enter Tryz.func80, Tryz.ntmps80
    go_wp2
    go_ret
    exact ⟨rfl, rfl⟩
  by_cases h2 : 4 ≤ k
  · rw [wid_none (.inr h2)]
    go_enter Tryz.func80, Tryz.ntmps80
    go_wp2
    go_ret
    exact ⟨rfl, rfl⟩
  obtain ⟨i, rfl⟩ := Int.eq_ofNat_of_zero_le (show 0 ≤ k by omega)
  have hc := hw i (by omega)
  have hi : i < 4 := by omega
  have h3 : (i : Int) < 4 := by omega
  obtain ⟨R, hR⟩ : ∃ R, wid (i : Int) = R := ⟨_, rfl⟩
  rw [hR] at hc ⊢
  clear hR hk hw
  go_enter Tryz.func80, Tryz.ntmps80
  go_wp2
  go_ret
  exact ⟨rfl, rfl⟩

theorem mayT_any (f : Int) (w : World) (hf : In64 f) : Calls Tryz.prog 95 #[.int .i64 f] w fun e w' => e = .returned (.bool (decide (Ag.begin_ f))) ∧ w = w' := by
  obtain ⟨B, hB⟩ : ∃ B, B = decide (Ag.begin_ f) := ⟨_, rfl⟩
  rw [← hB]
  unfold Ag.begin_ at hB
  obtain ⟨l, u⟩ := hf
  have HB := Lib.hid hB
  clear hB
  by_cases h1 : 0 ≤ f
  · by_cases h2 : f ≤ 1099511627776
    · go_enter Tryz.func95, Tryz.ntmps95
      go_wp2
      go_ret
      exact ⟨ret_bool (by rw [HB.out]; simp [*]), rfl⟩
    · go_enter Tryz.func95, Tryz.ntmps95
      go_wp2
      go_ret
      exact ⟨ret_bool (by rw [HB.out]; simp [*]), rfl⟩
  · go_enter Tryz.func95, Tryz.ntmps95
    go_wp2
    go_ret
    exact ⟨ret_bool (by rw [HB.out]; exact (decide_eq_false (by omega)).symm), rfl⟩

theorem coarse_any (k : Int) (w : World) (hk : In64 k) : Calls Tryz.prog 89 #[.int .i64 k] w fun e w' => e = .returned (.bool (decide (coarse k))) ∧ w = w' := by
  obtain ⟨B, hB⟩ : ∃ B, B = decide (coarse k) := ⟨_, rfl⟩
  rw [← hB]
  unfold coarse at hB
  obtain ⟨l, u⟩ := hk
  have HB := Lib.hid hB
  clear hB
  by_cases h1 : 1 ≤ k
  · by_cases h2 : k < 4
    · go_enter Tryz.func89, Tryz.ntmps89
      go_wp2
      go_ret
      exact ⟨ret_bool (by rw [HB.out]; exact (decide_eq_true (by omega)).symm), rfl⟩
    · go_enter Tryz.func89, Tryz.ntmps89
      go_wp2
      go_ret
      exact ⟨ret_bool (by rw [HB.out]; exact (decide_eq_false (by omega)).symm), rfl⟩
  · go_enter Tryz.func89, Tryz.ntmps89
    go_wp2
    go_ret
    exact ⟨ret_bool (by rw [HB.out]; exact (decide_eq_false (by omega)).symm), rfl⟩

theorem floor_any (t k : Int) (w : World) (ht : In64 t) (hk : In64 k) (hw : Wid w) : Calls Tryz.prog 76 #[.int .i64 t, .int .i64 k] w fun e w' => e = .returned (.int .i64 (flr t k)) ∧ w = w' := by
  have m1 := fun w hw => width_any k w hk hw
  have m2 := fun w => mayT_any t w ht
  have M1 := Lib.hid m1
  have HW := Lib.hid hw
  have hb := wid_bounds k
  have hf := flr_some (t := t) (k := k)
  have hn := flr_none (t := t) (k := k)
  obtain ⟨F, hF⟩ : ∃ F, flr t k = F := ⟨_, rfl⟩
  obtain ⟨V, hV⟩ : ∃ V, wid k = V := ⟨_, rfl⟩
  rw [hF] at hf hn ⊢
  rw [hV] at hf hn hb M1
  clear hF hV m1 hw
  by_cases h0 : V = 0
  · have HN := Lib.hid (hn (.inl h0))
    subst h0
    clear hf hn m2
    go_enter Tryz.func76, Tryz.ntmps76
    go_wp2_with fail
    refine (M1.out _ HW.out).mono ?_
    rintro e w2 ⟨rfl, rfl⟩
    go_wp2
    go_ret
    exact ⟨by rw [HN.out]; rfl, rfl⟩
  have h0' : (V == 0) = false := by simpa using h0
  by_cases h1 : Ag.begin_ t
  · rw [decide_eq_true h1] at m2
    have M2 := Lib.hid m2
    have HF := hf h0 h1
    unfold Ag.begin_ at h1
    unfold In64 at *
    have hr : t.tmod V = t % V := Int.tmod_eq_emod_of_nonneg h1.1
    have h3 := Int.emod_nonneg t h0
    have h5 : t % V ≤ t := emod_le h1.1 (by omega)
    obtain ⟨R, hR⟩ : ∃ R, t % V = R := ⟨_, rfl⟩
    rw [hR] at hr HF h3 h5
    have hs : IntKind.i64.wrap (t - R) = F := by rw [IntKind.wrap_i64]; omega
    have hrr : IntKind.i64.wrap R = R := by rw [IntKind.wrap_i64]; omega
    have hF1 : -1 < F := by omega
    have hne : V ≠ -1 := by omega
    clear hf hn m2 HF hR
    go_enter Tryz.func76, Tryz.ntmps76
    go_wp2_with fail
    refine (M1.out _ HW.out).mono ?_
    rintro e w2 ⟨rfl, rfl⟩
    go_wp2_with fail
    refine (M2.out _).mono ?_
    rintro e w2 ⟨rfl, rfl⟩
    go_wp2
    go_ret
    exact ⟨rfl, rfl⟩
  · rw [decide_eq_false h1] at m2
    have M2 := Lib.hid m2
    have HN := Lib.hid (hn (.inr h1))
    clear hf hn m2 h0 h1
    go_enter Tryz.func76, Tryz.ntmps76
    go_wp2_with fail
    refine (M1.out _ HW.out).mono ?_
    rintro e w2 ⟨rfl, rfl⟩
    go_wp2_with fail
    refine (M2.out _).mono ?_
    rintro e w2 ⟨rfl, rfl⟩
    go_wp2
    go_ret
    exact ⟨by rw [HN.out]; rfl, rfl⟩
end Go.Proofs.YtepancmkopifpaaGreatDoor
namespace Go.Proofs.YtepancmkopifpaaGreatDoor
open Go.RowKit

/-- The variable at block g holds the aggregate a. -/
def Holds (w : World) (g : Nat) (a : Ag) : Prop :=
  w.cell? ⟨g, 0, none⟩ = some (.int .i64 a.fr) ∧ w.cell? ⟨g, 1, none⟩ = some (.int .i64 a.cn) ∧ w.cell? ⟨g, 2, none⟩ = some (.int .i64 a.sm) ∧ w.cell? ⟨g, 3, none⟩ = some (.int .i64 a.mn) ∧
  w.cell? ⟨g, 4, none⟩ = some (.int .i64 a.mx) ∧ w.cell? ⟨g, 5, none⟩ = some (.int .i64 a.fi) ∧ w.cell? ⟨g, 6, none⟩ = some (.int .i64 a.la)
theorem Holds.below {w w' : World} {g : Nat} {a : Ag} (h : Holds w g a) (hb : Below w.heap.size w w') : Holds w' g a := by
  obtain ⟨h0, h1, h2, h3, h4, h5, h6⟩ := h
  have hl : g < w.heap.size := World.block_lt_of_cell? w _ h0
  refine ⟨?_, ?_, ?_, ?_, ?_, ?_, ?_⟩ <;> (rw [hb.cell hl]; assumption)

theorem box_below {w w2 : World} {o : Obj} (h : Below (w.alloc o).heap.size (w.alloc o) w2) : Below w.heap.size w w2 := by
  have h0 : Below w.heap.size w (w.alloc o) := (Below.refl _ _).alloc (Nat.le_refl _) _
  exact h0.trans (h.mono h0.size)

set_option maxRecDepth 100000 in
set_option maxHeartbeats 1000000 in
theorem may_any (a : Ag) (w : World) (ha : a.ok) : Calls Tryz.prog 96 #[a.val] w fun e w' => e = .returned (.bool (decide a.may)) ∧ Below w.heap.size w w' := by
  obtain ⟨B, hB⟩ : ∃ B, B = decide a.may := ⟨_, rfl⟩
  rw [← hB]
  have MB := Lib.hid hB
  clear hB
  obtain ⟨o1, o2, o3, o4, o5, o6, o7⟩ := ha
  have ho := fun w => hold_any a w ⟨o1, o2, o3, o4, o5, o6, o7⟩
  have al := fun w => alike_any a w ⟨o1, o2, o3, o4, o5, o6, o7⟩
  have hbox : Holds (w.alloc (.cells #[.int .i64 a.fr, .int .i64 a.cn, .int .i64 a.sm, .int .i64 a.mn, .int .i64 a.mx, .int .i64 a.fi, .int .i64 a.la] 50)) w.heap.size a := by
    refine ⟨?_, ?_, ?_, ?_, ?_, ?_, ?_⟩ <;> simp
  have HBOX := Lib.hid hbox
  clear hbox
  have be := fun w => begin_any a.fr w o1
  have co := fun w => count_any a.cn w o2
  by_cases m1 : Ag.begin_ a.fr
  case neg =>
    have MB' : Hid (B = false) := Lib.hid (by rw [MB.out]; exact decide_eq_false (fun h => m1 h.1))
    rw [decide_eq_false m1] at be
    have BE := Lib.hid be
    unfold Ag.val at *
    unfold In64 at *
    clear be co ho al m1 MB HBOX
    go_enter Tryz.func96, Tryz.ntmps96
    go_wp2_with fail
    refine (BE.out _).mono ?_
    rintro e w2 ⟨rfl, rfl⟩
    go_wp2
    go_ret
    exact ⟨ret_bool MB'.out.symm, (Below.refl _ _).alloc (Nat.le_refl _) _⟩
  by_cases m2 : Ag.count a.cn
  case neg =>
    have MB' : Hid (B = false) := Lib.hid (by rw [MB.out]; exact decide_eq_false (fun h => m2 h.2.1))
    rw [decide_eq_true m1] at be
    rw [decide_eq_false m2] at co
    have BE := Lib.hid be
    have CO := Lib.hid co
    unfold Ag.val at *
    unfold In64 at *
    clear be co ho al m1 m2 MB HBOX
    go_enter Tryz.func96, Tryz.ntmps96
    go_wp2_with fail
    refine (BE.out _).mono ?_
    rintro e w2 ⟨rfl, rfl⟩
    go_wp2_with fail
    refine (CO.out _).mono ?_
    rintro e w2 ⟨rfl, rfl⟩
    go_wp2
    go_ret
    exact ⟨ret_bool MB'.out.symm, (Below.refl _ _).alloc (Nat.le_refl _) _⟩
  by_cases m3 : a.hold
  case neg =>
    have MB' : Hid (B = false) := Lib.hid (by rw [MB.out]; exact decide_eq_false (fun h => m3 h.2.2.1))
    rw [decide_eq_true m1] at be
    rw [decide_eq_true m2] at co
    rw [decide_eq_false m3] at ho
    have BE := Lib.hid be
    have CO := Lib.hid co
    have HO := Lib.hid ho
    unfold Ag.val at *
    unfold In64 at *
    clear be co ho al m1 m2 m3 MB HBOX
    go_enter Tryz.func96, Tryz.ntmps96
    go_wp2_with fail
    refine (BE.out _).mono ?_
    rintro e w2 ⟨rfl, rfl⟩
    go_wp2_with fail
    refine (CO.out _).mono ?_
    rintro e w2 ⟨rfl, rfl⟩
    go_wp2_with fail
    refine (HO.out _).mono ?_
    rintro e w2 ⟨rfl, hb⟩
    go_wp2
    go_ret
    exact ⟨ret_bool MB'.out.symm, box_below hb⟩
  rw [decide_eq_true m1] at be
  rw [decide_eq_true m2] at co
  rw [decide_eq_true m3] at ho
  have BE := Lib.hid be
  have CO := Lib.hid co
  have HO := Lib.hid ho
  by_cases m4 : 1 < a.cn
  · have MB' : Hid (B = true) := Lib.hid (by rw [MB.out]; exact decide_eq_true ⟨m1, m2, m3, .inl m4⟩)
    unfold Ag.val at *
    unfold In64 at *
    clear be co ho al m1 m2 m3 MB
    go_enter Tryz.func96, Tryz.ntmps96
    go_wp2_with fail
    refine (BE.out _).mono ?_
    rintro e w2 ⟨rfl, rfl⟩
    go_wp2_with fail
    refine (CO.out _).mono ?_
    rintro e w2 ⟨rfl, rfl⟩
    go_wp2_with fail
    refine (HO.out _).mono ?_
    rintro e w2 ⟨rfl, hb⟩
    have hc := (HBOX.out.below hb).2.1
    go_wp2
    go_ret
    exact ⟨ret_bool MB'.out.symm, box_below hb⟩
  obtain ⟨b, hb⟩ : ∃ b, decide a.alike = b := ⟨_, rfl⟩
  rw [hb] at al
  have AL := Lib.hid al
  have MB' : Hid (B = b) := Lib.hid (by
    rw [MB.out, ← hb, decide_eq_decide]
    exact ⟨fun h => h.2.2.2.resolve_left m4, fun h => ⟨m1, m2, m3, .inr h⟩⟩)
  unfold Ag.val at *
  unfold In64 at *
  clear be co ho al m1 m2 m3 MB hb
  go_enter Tryz.func96, Tryz.ntmps96
  go_wp2_with fail
  refine (BE.out _).mono ?_
  rintro e w2 ⟨rfl, rfl⟩
  go_wp2_with fail
  refine (CO.out _).mono ?_
  rintro e w2 ⟨rfl, rfl⟩
  go_wp2_with fail
  refine (HO.out _).mono ?_
  rintro e w2 ⟨rfl, hb⟩
  obtain ⟨c0, c1, c2, c3, c4, c5, c6⟩ := HBOX.out.below hb
  go_wp2_with fail
  refine (AL.out _).mono ?_
  rintro e w3 ⟨rfl, hb3⟩
  clear c0 c1 c2 c3 c4 c5 c6
  go_wp2
  go_ret
  exact ⟨ret_bool (by rw [MB'.out, decide_eq_false (by omega)]; rfl), (box_below hb).trans (hb3.mono (box_below hb).size)⟩

/-- The variable at block g is not frozen. -/
def Free (w : World) (g : Nat) : Prop :=
  w.frozen? ⟨g, 0, none⟩ = false ∧ w.frozen? ⟨g, 1, none⟩ = false ∧ w.frozen? ⟨g, 2, none⟩ = false ∧ w.frozen? ⟨g, 3, none⟩ = false ∧ w.frozen? ⟨g, 4, none⟩ = false ∧ w.frozen? ⟨g, 5, none⟩ = false ∧ w.frozen? ⟨g, 6, none⟩ = false
theorem Free.below {w w' : World} {g : Nat} (h : Free w g) (hl : g < w.heap.size) (hb : Below w.heap.size w w') : Free w' g := by
  obtain ⟨h0, h1, h2, h3, h4, h5, h6⟩ := h
  refine ⟨?_, ?_, ?_, ?_, ?_, ?_, ?_⟩ <;> (rw [hb.frozen hl]; assumption)
/-- The world in which Join's body begins: both arguments, and the result. -/
def joinW (w : World) (a b : Ag) : World :=
  ((w.alloc (.cells #[.int .i64 a.fr, .int .i64 a.cn, .int .i64 a.sm, .int .i64 a.mn, .int .i64 a.mx, .int .i64 a.fi, .int .i64 a.la] 50)).alloc
    (.cells #[.int .i64 b.fr, .int .i64 b.cn, .int .i64 b.sm, .int .i64 b.mn, .int .i64 b.mx, .int .i64 b.fi, .int .i64 b.la] 50)).alloc
    (.cells #[.int .i64 0, .int .i64 0, .int .i64 0, .int .i64 0, .int .i64 0, .int .i64 0, .int .i64 0] 50)
theorem joinW_facts (w : World) (a b : Ag) : Holds (joinW w a b) w.heap.size a ∧ Holds (joinW w a b) (w.heap.size + 1) b ∧ Holds (joinW w a b) (w.heap.size + 1 + 1) Ag.zero ∧
    Free (joinW w a b) (w.heap.size + 1 + 1) ∧ w.heap.size + 1 + 1 < (joinW w a b).heap.size ∧ Below w.heap.size w (joinW w a b) := by
  unfold joinW Holds Free
  refine ⟨?_, ?_, ?_, ?_, ?_, ?_⟩
  · refine ⟨?_, ?_, ?_, ?_, ?_, ?_, ?_⟩ <;> simp [go_sem]
  · refine ⟨?_, ?_, ?_, ?_, ?_, ?_, ?_⟩ <;> simp [go_sem]
  · unfold Ag.zero
    refine ⟨?_, ?_, ?_, ?_, ?_, ?_, ?_⟩ <;> simp [go_sem]
  · refine ⟨?_, ?_, ?_, ?_, ?_, ?_, ?_⟩ <;> simp [go_sem]
  · simp
  · exact (((Below.refl _ _).alloc (Nat.le_refl _) _).alloc (by simp) _).alloc (by simp; omega) _

set_option maxRecDepth 100000 in
set_option maxHeartbeats 1000000 in
theorem join_yes (a b : Ag) (w : World) (ha : a.ok) (hb : b.ok) (ma : a.may) (mb : b.may) (hc : a.cn + b.cn ≤ 1099511627776) (hs : In64 (a.sm + b.sm)) :
    Calls Tryz.prog 93 #[a.val, b.val] w fun e w' => e = .returned (.tuple #[(a.both b).val, .int .i64 0]) ∧ Below w.heap.size w w' := by
  have m1 := fun w => may_any a w ha
  have m2 := fun w => may_any b w hb
  rw [decide_eq_true ma] at m1
  rw [decide_eq_true mb] at m2
  have hcn : Ag.count (a.cn + b.cn) := by
    unfold Ag.may Ag.count at *
    omega
  have hcw : IntKind.i64.wrap (a.cn + b.cn) = a.cn + b.cn := by
    rw [IntKind.wrap_i64]
    unfold Ag.count at hcn
    omega
  have m3 := fun w => count_any (a.cn + b.cn) w (by unfold Ag.count at hcn; unfold In64; omega)
  rw [decide_eq_true hcn] at m3
  have m4 := fun w => add_in a.sm b.sm w ha.2.2.1 hb.2.2.1 hs
  have M1 := Lib.hid m1
  have M2 := Lib.hid m2
  have M3 := Lib.hid m3
  have M4 := Lib.hid m4
  have J := Lib.hid (joinW_facts w a b)
  clear m1 m2 m3 m4 ha hb ma mb hc hs hcn
  unfold Ag.both Ag.val at *
  go_enter Tryz.func93, Tryz.ntmps93
  go_wp2_with fail
  refine (M1.out _).mono ?_
  rintro e w2 ⟨rfl, hb2⟩
  change Below (joinW w a b).heap.size (joinW w a b) w2 at hb2
  obtain ⟨c0, c1, c2, c3, c4, c5, c6⟩ := J.out.2.1.below hb2
  go_wp2_with fail
  refine (M2.out _).mono ?_
  rintro e w3 ⟨rfl, hb3⟩
  clear c0 c1 c2 c3 c4 c5 c6
  have hB : Below (joinW w a b).heap.size (joinW w a b) w3 := hb2.trans (hb3.mono hb2.size)
  clear hb2 hb3
  have HB := Lib.hid hB
  obtain ⟨c0, c1, c2, c3, c4, c5, c6⟩ := J.out.1.below hB
  obtain ⟨d0, d1, d2, d3, d4, d5, d6⟩ := J.out.2.1.below hB
  clear hB
  go_wp2_with fail
  refine (M3.out _).mono ?_
  rintro e w4 ⟨rfl, rfl⟩
  go_wp2_with fail
  refine (M4.out _).mono ?_
  rintro e w4 ⟨rfl, rfl⟩
  obtain ⟨z0, z1, z2, z3, z4, z5, z6⟩ := J.out.2.2.1.below HB.out
  obtain ⟨f0, f1, f2, f3, f4, f5, f6⟩ := J.out.2.2.2.1.below J.out.2.2.2.2.1 HB.out
  go_wp2
  (try simp only [Exit.inBlock, Exit.then])
  refine bodyPost_ret (v := .tuple #[.agg #[.int .i64 a.fr, .int .i64 (a.cn + b.cn), .int .i64 (a.sm + b.sm), .int .i64 (min a.mn b.mn), .int .i64 (max a.mx b.mx), .int .i64 a.fi, .int .i64 b.la], .int .i64 0]) ?_ rfl ⟨rfl, ?_⟩
  · rw [results_cell_tmp rfl]
    go_simp
  · have h := J.out.2.2.2.2.2
    have hw3 : Below w.heap.size w w3 := h.trans (HB.out.mono h.size)
    exact ((((((hw3.setCell (by simp; omega) _).setCell (by simp; omega) _).setCell (by simp; omega) _).setCell (by simp; omega) _).setCell (by simp; omega) _).setCell (by simp; omega) _).setCell (by simp; omega) _
set_option maxRecDepth 100000 in
set_option maxHeartbeats 1000000 in
theorem join_over (a b : Ag) (w : World) (ha : a.ok) (hb : b.ok) (ma : a.may) (mb : b.may) (hc : a.cn + b.cn ≤ 1099511627776) (hs : ¬ In64 (a.sm + b.sm)) :
    Calls Tryz.prog 93 #[a.val, b.val] w fun e w' => e = .returned (.tuple #[Ag.zero.val, .int .i64 3]) ∧ Below w.heap.size w w' := by
  have m1 := fun w => may_any a w ha
  have m2 := fun w => may_any b w hb
  rw [decide_eq_true ma] at m1
  rw [decide_eq_true mb] at m2
  have hcn : Ag.count (a.cn + b.cn) := by
    unfold Ag.may Ag.count at *
    omega
  have hcw : IntKind.i64.wrap (a.cn + b.cn) = a.cn + b.cn := by
    rw [IntKind.wrap_i64]
    unfold Ag.count at hcn
    omega
  have m3 := fun w => count_any (a.cn + b.cn) w (by unfold Ag.count at hcn; unfold In64; omega)
  rw [decide_eq_true hcn] at m3
  have m4 := fun w => add_out a.sm b.sm w ha.2.2.1 hb.2.2.1 hs
  have M1 := Lib.hid m1
  have M2 := Lib.hid m2
  have M3 := Lib.hid m3
  have M4 := Lib.hid m4
  have J := Lib.hid (joinW_facts w a b)
  clear m1 m2 m3 m4 ha hb ma mb hc hs hcn
  unfold Ag.zero Ag.val at *
  go_enter Tryz.func93, Tryz.ntmps93
  go_wp2_with fail
  refine (M1.out _).mono ?_
  rintro e w2 ⟨rfl, hb2⟩
  change Below (joinW w a b).heap.size (joinW w a b) w2 at hb2
  obtain ⟨c0, c1, c2, c3, c4, c5, c6⟩ := J.out.2.1.below hb2
  go_wp2_with fail
  refine (M2.out _).mono ?_
  rintro e w3 ⟨rfl, hb3⟩
  clear c0 c1 c2 c3 c4 c5 c6
  have hB : Below (joinW w a b).heap.size (joinW w a b) w3 := hb2.trans (hb3.mono hb2.size)
  clear hb2 hb3
  have HB := Lib.hid hB
  obtain ⟨c0, c1, c2, c3, c4, c5, c6⟩ := J.out.1.below hB
  obtain ⟨d0, d1, d2, d3, d4, d5, d6⟩ := J.out.2.1.below hB
  clear hB
  go_wp2_with fail
  refine (M3.out _).mono ?_
  rintro e w4 ⟨rfl, rfl⟩
  go_wp2_with fail
  refine (M4.out _).mono ?_
  rintro e w4 ⟨rfl, rfl⟩
  obtain ⟨z0, z1, z2, z3, z4, z5, z6⟩ := J.out.2.2.1.below HB.out
  obtain ⟨f0, f1, f2, f3, f4, f5, f6⟩ := J.out.2.2.2.1.below J.out.2.2.2.2.1 HB.out
  go_wp2
  (try simp only [Exit.inBlock, Exit.then])
  refine bodyPost_ret (v := .tuple #[.agg #[.int .i64 0, .int .i64 0, .int .i64 0, .int .i64 0, .int .i64 0, .int .i64 0, .int .i64 0], .int .i64 3]) ?_ rfl ⟨rfl, ?_⟩
  · rw [results_cell_tmp rfl]
    go_simp
  · have h := J.out.2.2.2.2.2
    have hw3 : Below w.heap.size w w3 := h.trans (HB.out.mono h.size)
    exact ((((((hw3.setCell (by simp; omega) _).setCell (by simp; omega) _).setCell (by simp; omega) _).setCell (by simp; omega) _).setCell (by simp; omega) _).setCell (by simp; omega) _).setCell (by simp; omega) _
set_option maxRecDepth 100000 in
set_option maxHeartbeats 1000000 in
theorem join_many (a b : Ag) (w : World) (ha : a.ok) (hb : b.ok) (ma : a.may) (mb : b.may) (hc : ¬ a.cn + b.cn ≤ 1099511627776) :
    Calls Tryz.prog 93 #[a.val, b.val] w fun e w' => e = .returned (.tuple #[Ag.zero.val, .int .i64 1]) ∧ Below w.heap.size w w' := by
  have m1 := fun w => may_any a w ha
  have m2 := fun w => may_any b w hb
  rw [decide_eq_true ma] at m1
  rw [decide_eq_true mb] at m2
  have hcn : ¬ Ag.count (a.cn + b.cn) := by
    unfold Ag.count
    omega
  have hc2 : In64 (a.cn + b.cn) := by
    unfold Ag.may Ag.count at ma mb
    unfold In64
    omega
  have hcw : IntKind.i64.wrap (a.cn + b.cn) = a.cn + b.cn := by
    rw [IntKind.wrap_i64]
    unfold In64 at hc2
    omega
  have m3 := fun w => count_any (a.cn + b.cn) w hc2
  rw [decide_eq_false hcn] at m3
  have M1 := Lib.hid m1
  have M2 := Lib.hid m2
  have M3 := Lib.hid m3
  have J := Lib.hid (joinW_facts w a b)
  clear m1 m2 m3 ha hb ma mb hc hcn hc2
  unfold Ag.zero Ag.val at *
  go_enter Tryz.func93, Tryz.ntmps93
  go_wp2_with fail
  refine (M1.out _).mono ?_
  rintro e w2 ⟨rfl, hb2⟩
  change Below (joinW w a b).heap.size (joinW w a b) w2 at hb2
  obtain ⟨c0, c1, c2, c3, c4, c5, c6⟩ := J.out.2.1.below hb2
  go_wp2_with fail
  refine (M2.out _).mono ?_
  rintro e w3 ⟨rfl, hb3⟩
  clear c0 c1 c2 c3 c4 c5 c6
  have hB : Below (joinW w a b).heap.size (joinW w a b) w3 := hb2.trans (hb3.mono hb2.size)
  clear hb2 hb3
  have HB := Lib.hid hB
  obtain ⟨c0, c1, c2, c3, c4, c5, c6⟩ := J.out.1.below hB
  obtain ⟨d0, d1, d2, d3, d4, d5, d6⟩ := J.out.2.1.below hB
  clear hB
  go_wp2_with fail
  refine (M3.out _).mono ?_
  rintro e w4 ⟨rfl, rfl⟩
  obtain ⟨z0, z1, z2, z3, z4, z5, z6⟩ := J.out.2.2.1.below HB.out
  obtain ⟨f0, f1, f2, f3, f4, f5, f6⟩ := J.out.2.2.2.1.below J.out.2.2.2.2.1 HB.out
  go_wp2
  (try simp only [Exit.inBlock, Exit.then])
  refine bodyPost_ret (v := .tuple #[.agg #[.int .i64 0, .int .i64 0, .int .i64 0, .int .i64 0, .int .i64 0, .int .i64 0, .int .i64 0], .int .i64 1]) ?_ rfl ⟨rfl, ?_⟩
  · rw [results_cell_tmp rfl]
    go_simp
  · have h := J.out.2.2.2.2.2
    have hw3 : Below w.heap.size w w3 := h.trans (HB.out.mono h.size)
    exact ((((((hw3.setCell (by simp; omega) _).setCell (by simp; omega) _).setCell (by simp; omega) _).setCell (by simp; omega) _).setCell (by simp; omega) _).setCell (by simp; omega) _).setCell (by simp; omega) _

set_option maxRecDepth 100000 in
set_option maxHeartbeats 1000000 in
theorem join_second (a b : Ag) (w : World) (ha : a.ok) (hb : b.ok) (ma : a.may) (mb : ¬ b.may) :
    Calls Tryz.prog 93 #[a.val, b.val] w fun e w' => e = .returned (.tuple #[Ag.zero.val, .int .i64 1]) ∧ Below w.heap.size w w' := by
  have m1 := fun w => may_any a w ha
  have m2 := fun w => may_any b w hb
  rw [decide_eq_true ma] at m1
  rw [decide_eq_false mb] at m2
  have M1 := Lib.hid m1
  have M2 := Lib.hid m2
  have J := Lib.hid (joinW_facts w a b)
  clear m1 m2 ha hb ma mb
  unfold Ag.zero Ag.val at *
  go_enter Tryz.func93, Tryz.ntmps93
  go_wp2_with fail
  refine (M1.out _).mono ?_
  rintro e w2 ⟨rfl, hb2⟩
  change Below (joinW w a b).heap.size (joinW w a b) w2 at hb2
  obtain ⟨c0, c1, c2, c3, c4, c5, c6⟩ := J.out.2.1.below hb2
  go_wp2_with fail
  refine (M2.out _).mono ?_
  rintro e w3 ⟨rfl, hb3⟩
  clear c0 c1 c2 c3 c4 c5 c6
  have hB : Below (joinW w a b).heap.size (joinW w a b) w3 := hb2.trans (hb3.mono hb2.size)
  clear hb2 hb3
  have HB := Lib.hid hB
  clear hB
  obtain ⟨z0, z1, z2, z3, z4, z5, z6⟩ := J.out.2.2.1.below HB.out
  obtain ⟨f0, f1, f2, f3, f4, f5, f6⟩ := J.out.2.2.2.1.below J.out.2.2.2.2.1 HB.out
  go_wp2
  (try simp only [Exit.inBlock, Exit.then])
  refine bodyPost_ret (v := .tuple #[.agg #[.int .i64 0, .int .i64 0, .int .i64 0, .int .i64 0, .int .i64 0, .int .i64 0, .int .i64 0], .int .i64 1]) ?_ rfl ⟨rfl, ?_⟩
  · rw [results_cell_tmp rfl]
    go_simp
  · have h := J.out.2.2.2.2.2
    have hw3 : Below w.heap.size w w3 := h.trans (HB.out.mono h.size)
    exact ((((((hw3.setCell (by simp; omega) _).setCell (by simp; omega) _).setCell (by simp; omega) _).setCell (by simp; omega) _).setCell (by simp; omega) _).setCell (by simp; omega) _).setCell (by simp; omega) _

set_option maxRecDepth 100000 in
set_option maxHeartbeats 1000000 in
theorem join_first (a b : Ag) (w : World) (ha : a.ok) (ma : ¬ a.may) :
    Calls Tryz.prog 93 #[a.val, b.val] w fun e w' => e = .returned (.tuple #[Ag.zero.val, .int .i64 1]) ∧ Below w.heap.size w w' := by
  have m1 := fun w => may_any a w ha
  rw [decide_eq_false ma] at m1
  have M1 := Lib.hid m1
  have J := Lib.hid (joinW_facts w a b)
  clear m1 ha ma
  unfold Ag.zero Ag.val at *
  go_enter Tryz.func93, Tryz.ntmps93
  go_wp2_with fail
  refine (M1.out _).mono ?_
  rintro e w2 ⟨rfl, hb2⟩
  change Below (joinW w a b).heap.size (joinW w a b) w2 at hb2
  have HB := Lib.hid hb2
  clear hb2
  obtain ⟨z0, z1, z2, z3, z4, z5, z6⟩ := J.out.2.2.1.below HB.out
  obtain ⟨f0, f1, f2, f3, f4, f5, f6⟩ := J.out.2.2.2.1.below J.out.2.2.2.2.1 HB.out
  go_wp2
  (try simp only [Exit.inBlock, Exit.then])
  refine bodyPost_ret (v := .tuple #[.agg #[.int .i64 0, .int .i64 0, .int .i64 0, .int .i64 0, .int .i64 0, .int .i64 0, .int .i64 0], .int .i64 1]) ?_ rfl ⟨rfl, ?_⟩
  · rw [results_cell_tmp rfl]
    go_simp
  · have h := J.out.2.2.2.2.2
    have hw3 : Below w.heap.size w w2 := h.trans (HB.out.mono h.size)
    exact ((((((hw3.setCell (by simp; omega) _).setCell (by simp; omega) _).setCell (by simp; omega) _).setCell (by simp; omega) _).setCell (by simp; omega) _).setCell (by simp; omega) _).setCell (by simp; omega) _

/-- Join at every two aggregates. -/
theorem join_any (a b : Ag) (w : World) (ha : a.ok) (hb : b.ok) :
    Calls Tryz.prog 93 #[a.val, b.val] w fun e w' => e = .returned (.tuple #[(join a b).1.val, .int .i64 (join a b).2]) ∧ Below w.heap.size w w' := by
  by_cases ma : a.may
  case neg =>
    have e : join a b = (Ag.zero, 1) := by unfold join; rw [if_neg (fun h => ma h.1)]
    rw [e]
    exact join_first a b w ha ma
  by_cases mb : b.may
  case neg =>
    have e : join a b = (Ag.zero, 1) := by unfold join; rw [if_neg (fun h => mb h.2.1)]
    rw [e]
    exact join_second a b w ha hb ma mb
  by_cases hc : a.cn + b.cn ≤ 1099511627776
  case neg =>
    have e : join a b = (Ag.zero, 1) := by unfold join; rw [if_neg (fun h => hc h.2.2)]
    rw [e]
    exact join_many a b w ha hb ma mb hc
  by_cases hs : In64 (a.sm + b.sm)
  case neg =>
    have e : join a b = (Ag.zero, 3) := by unfold join; rw [if_pos ⟨ma, mb, hc⟩, if_neg hs]
    rw [e]
    exact join_over a b w ha hb ma mb hc hs
  have e : join a b = (a.both b, 0) := by unfold join; rw [if_pos ⟨ma, mb, hc⟩, if_pos hs]
  rw [e]
  exact join_yes a b w ha hb ma mb hc hs
end Go.Proofs.YtepancmkopifpaaGreatDoor
namespace Go.Proofs.YtepancmkopifpaaGreatDoor
open Go.RowKit
attribute [local go_sem ↓] Go.wp_at_zero Go.wp_at_succ

/-- The slice at A reads as the samples l. -/
def Samps (w : World) (A : Option Addr) (l : List (Int × Int)) : Prop :=
  (∀ s ∈ l, In64 s.1 ∧ In64 s.2) ∧ (0 < l.length → ∃ b off, A = some ⟨b, off, none⟩ ∧ ∀ j, j < l.length →
    w.cell? ⟨b, off + j * 2, none⟩ = some (.int .i64 (l.getD j (0, 0)).1) ∧ w.cell? ⟨b, off + j * 2 + 1, none⟩ = some (.int .i64 (l.getD j (0, 0)).2))

theorem belowN (w : World) (n : Nat) : Below w.heap.size w (w.drewN n) := ⟨rfl, rfl, rfl, Nat.le_refl _, fun _ _ => rfl⟩
theorem sample_mem {l : List (Int × Int)} {j : Nat} (h : j < l.length) : l.getD j (0, 0) ∈ l := by
  have e : l.getD j (0, 0) = l[j] := by simp [h]
  rw [e]; exact List.getElem_mem h
theorem drop_map {l : List (Int × Int)} {k : Nat} (h : k < l.length) : (l.map (·.2)).drop k = (l.getD k (0, 0)).2 :: (l.map (·.2)).drop (k + 1) := by
  have h' : k < (l.map (·.2)).length := by simpa using h
  rw [List.drop_eq_getElem_cons h']
  congr 1
  simp [h]

theorem all_at {l : List (Int × Int)} {f : Int} (h : 0 < l.length) (hf : Ag.begin_ f) : all f (l.map (·.2)) = goOn f (.one (l.getD 0 (0, 0)).2 f) ((l.map (·.2)).drop (0 + 1)) := by
  match l, h with
  | s :: r, _ => simp [all, hf]
theorem goOn_cons (f : Int) (a : Ag) (v : Int) (r : List Int) {j : Ag × Int} (h : join a (.one v f) = j) : goOn f a (v :: r) = if j.2 = 0 then goOn f j.1 r else j := by
  subst h
  rfl

/-- The two variables that All holds: what was joined so far, what it will return. -/
def AllHolds (w wr : World) (g6 : Nat) (a : Ag) : Prop :=
  Holds wr g6 a ∧ Free wr g6 ∧ g6 < wr.heap.size ∧ w.heap.size < g6 ∧ Holds wr w.heap.size Ag.zero ∧ Free wr w.heap.size ∧ Below w.heap.size w wr
theorem holds_set {wr : World} {g : Nat} {a0 a : Ag} (h : Holds wr g a0) :
    Holds (((((((wr.setCell ⟨g, 0, none⟩ (.int .i64 a.fr)).setCell ⟨g, 1, none⟩ (.int .i64 a.cn)).setCell ⟨g, 2, none⟩ (.int .i64 a.sm)).setCell ⟨g, 3, none⟩ (.int .i64 a.mn)).setCell ⟨g, 4, none⟩ (.int .i64 a.mx)).setCell ⟨g, 5, none⟩ (.int .i64 a.fi)).setCell ⟨g, 6, none⟩ (.int .i64 a.la)) g a := by
  obtain ⟨h0, h1, h2, h3, h4, h5, h6⟩ := h
  unfold Holds
  simp [go_sem, *]
theorem holds_other {wr : World} {g g' : Nat} {a : Ag} (h : Holds wr g a) (hne : g ≠ g') (v0 v1 v2 v3 v4 v5 v6 : Value) :
    Holds (((((((wr.setCell ⟨g', 0, none⟩ v0).setCell ⟨g', 1, none⟩ v1).setCell ⟨g', 2, none⟩ v2).setCell ⟨g', 3, none⟩ v3).setCell ⟨g', 4, none⟩ v4).setCell ⟨g', 5, none⟩ v5).setCell ⟨g', 6, none⟩ v6) g a := by
  obtain ⟨h0, h1, h2, h3, h4, h5, h6⟩ := h
  unfold Holds
  simp [go_sem, *]
theorem free_set {wr : World} {g g' : Nat} (h : Free wr g) (v0 v1 v2 v3 v4 v5 v6 : Value) :
    Free (((((((wr.setCell ⟨g', 0, none⟩ v0).setCell ⟨g', 1, none⟩ v1).setCell ⟨g', 2, none⟩ v2).setCell ⟨g', 3, none⟩ v3).setCell ⟨g', 4, none⟩ v4).setCell ⟨g', 5, none⟩ v5).setCell ⟨g', 6, none⟩ v6) g := by
  unfold Free at *
  simpa using h
theorem below_set {w wr : World} {B g' : Nat} (h : Below B w wr) (hg : B ≤ g') (v0 v1 v2 v3 v4 v5 v6 : Value) :
    Below B w (((((((wr.setCell ⟨g', 0, none⟩ v0).setCell ⟨g', 1, none⟩ v1).setCell ⟨g', 2, none⟩ v2).setCell ⟨g', 3, none⟩ v3).setCell ⟨g', 4, none⟩ v4).setCell ⟨g', 5, none⟩ v5).setCell ⟨g', 6, none⟩ v6) :=
  ((((((h.setCell hg _).setCell hg _).setCell hg _).setCell hg _).setCell hg _).setCell hg _).setCell hg _
theorem AllHolds.set {w wr : World} {g6 : Nat} {a0 : Ag} (a : Ag) (h : AllHolds w wr g6 a0) :
    AllHolds w (((((((wr.setCell ⟨g6, 0, none⟩ (.int .i64 a.fr)).setCell ⟨g6, 1, none⟩ (.int .i64 a.cn)).setCell ⟨g6, 2, none⟩ (.int .i64 a.sm)).setCell ⟨g6, 3, none⟩ (.int .i64 a.mn)).setCell ⟨g6, 4, none⟩ (.int .i64 a.mx)).setCell ⟨g6, 5, none⟩ (.int .i64 a.fi)).setCell ⟨g6, 6, none⟩ (.int .i64 a.la)) g6 a := by
  obtain ⟨h1, h2, h3, h4, h5, h6, h7⟩ := h
  have hb := below_set (Below.refl 0 wr) (Nat.zero_le g6) (.int .i64 a.fr) (.int .i64 a.cn) (.int .i64 a.sm) (.int .i64 a.mn) (.int .i64 a.mx) (.int .i64 a.fi) (.int .i64 a.la)
  exact ⟨holds_set h1, free_set h2 _ _ _ _ _ _ _, Nat.lt_of_lt_of_le h3 hb.size, h4, holds_other h5 (by omega) _ _ _ _ _ _ _, free_set h6 _ _ _ _ _ _ _, below_set h7 (by omega) _ _ _ _ _ _ _⟩
theorem AllHolds.below {w wr w' : World} {g6 : Nat} {a : Ag} (h : AllHolds w wr g6 a) (hb : Below wr.heap.size wr w') : AllHolds w w' g6 a := by
  obtain ⟨h1, h2, h3, h4, h5, h6, h7⟩ := h
  exact ⟨h1.below hb, h2.below h3 hb, Nat.lt_of_lt_of_le h3 hb.size, h4, h5.below hb, h6.below (by omega) hb, h7.trans (hb.mono h7.size)⟩

set_option maxRecDepth 100000 in
set_option maxHeartbeats 2000000 in
theorem all_in (b off n cap : Nat) (l : List (Int × Int)) (f : Int) (w : World) (hl : l.length = n + 1) (hlen : 1 ≤ n) (hb : ∀ s ∈ l, In64 s.1 ∧ In64 s.2) (hc : n + 1 ≤ cap) (hm : cap ≤ maxLen) (hf : Ag.begin_ f)
    (hcell : ∀ j, j < n + 1 → w.cell? ⟨b, off + j * 2, none⟩ = some (.int .i64 (l.getD j (0, 0)).1) ∧ w.cell? ⟨b, off + j * 2 + 1, none⟩ = some (.int .i64 (l.getD j (0, 0)).2)) :
    Calls Tryz.prog 91 #[.slice (some ⟨b, off, none⟩) (n + 1) cap, .int .i64 f] w fun e w' => e = .returned (.tuple #[(all f (l.map (·.2))).1.val, .int .i64 (all f (l.map (·.2))).2]) ∧ Below w.heap.size w w' := by
  unfold maxLen at hm
  have hf64 : In64 f := by
    unfold Ag.begin_ at hf
    unfold In64
    omega
  have m1 := fun w => begin_any f w hf64
  rw [decide_eq_true hf] at m1
  have M1 := Lib.hid m1
  obtain ⟨c0, c1⟩ := hcell 0 (by omega)
  simp only [Nat.zero_mul, Nat.add_zero] at c0 c1
  have hb0 := hb (l.getD 0 (0, 0)) (sample_mem (by omega))
  have hR : all f (l.map (·.2)) = goOn f (.one (l.getD 0 (0, 0)).2 f) ((l.map (·.2)).drop (0 + 1)) := all_at (by omega) hf
  generalize all f (l.map (·.2)) = R at hR
  obtain ⟨⟨Rfr, Rcn, Rsm, Rmn, Rmx, Rfi, Rla⟩, Rc⟩ := R
  generalize hs0 : l.getD 0 (0, 0) = s0 at c0 c1 hb0 hR
  obtain ⟨t0, v0⟩ := s0
  simp only at c0 c1 hb0 hR
  have m2 := fun w => one_any t0 v0 f w hb0.2 hf64
  have M2 := Lib.hid m2
  have HCELL := Lib.hid hcell
  have HL := Lib.hid hl
  have HB := Lib.hid hb
  have HR := Lib.hid hR
  have HV0 := Lib.hid hb0.2
  have hlt : b < w.heap.size := World.block_lt_of_cell? w _ c0
  have HZ : Hid (Holds (w.alloc (.cells #[.int .i64 0, .int .i64 0, .int .i64 0, .int .i64 0, .int .i64 0, .int .i64 0, .int .i64 0] 50)) w.heap.size Ag.zero ∧ Free (w.alloc (.cells #[.int .i64 0, .int .i64 0, .int .i64 0, .int .i64 0, .int .i64 0, .int .i64 0, .int .i64 0] 50)) w.heap.size ∧
      Below w.heap.size w (w.alloc (.cells #[.int .i64 0, .int .i64 0, .int .i64 0, .int .i64 0, .int .i64 0, .int .i64 0, .int .i64 0] 50)) ∧ w.heap.size < (w.alloc (.cells #[.int .i64 0, .int .i64 0, .int .i64 0, .int .i64 0, .int .i64 0, .int .i64 0, .int .i64 0] 50)).heap.size) := Lib.hid (by
    refine ⟨?_, ?_, (Below.refl _ _).alloc (Nat.le_refl _) _, by simp⟩
    · unfold Holds Ag.zero
      simp
    · unfold Free
      simp)
  have HF := Lib.hid hf
  have HF64 := Lib.hid hf64
  have h1c : 1 < cap := by omega
  unfold Ag.val at *
  clear hcell hl hb hs0 m1 m2 hb0 hR hf hf64
  go_enter Tryz.func91, Tryz.ntmps91
  go_wp2
  go_step3
  go_wp2_with fail
  refine (M1.out _).mono ?_
  rintro e w2 ⟨rfl, rfl⟩
  go_wp2_with fail
  refine (M2.out _).mono ?_
  rintro e w2 ⟨rfl, hb2⟩
  have HH : Hid (AllHolds w (w2.alloc (.cells #[.int .i64 (Ag.one v0 f).fr, .int .i64 (Ag.one v0 f).cn, .int .i64 (Ag.one v0 f).sm, .int .i64 (Ag.one v0 f).mn, .int .i64 (Ag.one v0 f).mx, .int .i64 (Ag.one v0 f).fi, .int .i64 (Ag.one v0 f).la] 50)) w2.heap.size (Ag.one v0 f)) := Lib.hid (by
    obtain ⟨z1, z2, z3, z4⟩ := HZ.out
    have hb3 := (Below.refl w2.heap.size w2).alloc (Nat.le_refl _) (.cells #[.int .i64 (Ag.one v0 f).fr, .int .i64 (Ag.one v0 f).cn, .int .i64 (Ag.one v0 f).sm, .int .i64 (Ag.one v0 f).mn, .int .i64 (Ag.one v0 f).mx, .int .i64 (Ag.one v0 f).fi, .int .i64 (Ag.one v0 f).la] 50)
    refine ⟨?_, ?_, by simp, Nat.lt_of_lt_of_le z4 hb2.size, (z1.below hb2).below hb3, (z2.below z4 hb2).below (Nat.lt_of_lt_of_le z4 hb2.size) hb3, (z3.trans (hb2.mono z3.size)).trans (hb3.mono (Nat.le_trans z3.size hb2.size))⟩
    · unfold Holds
      simp
    · unfold Free
      simp)
  clear hb2 HZ c0 c1
  go_wp2
  go_step3
  go_wp2
  generalize hg6 : w2.heap.size = g6 at *
  go_loopw [7, 27] (fun sc si wr => ∃ (k : Nat) (a : Ag), k ≤ n ∧ si = .int .i64 (k : Int) ∧ sc = .int .i64 0 ∧ Hid ((⟨Rfr, Rcn, Rsm, Rmn, Rmx, Rfi, Rla⟩, Rc) = goOn f a ((l.map (·.2)).drop (k + 1))) ∧ Hid a.ok ∧ Hid (AllHolds w wr g6 a)) (fun _ si _ => n - (intOf si).toNat)
  case atStart => exact ⟨0, Ag.one v0 f, by omega, rfl, rfl, HR, Lib.hid (one_ok HF.out HV0.out), HH⟩
  case round =>
    obtain ⟨k, a, hk, rfl, rfl, HD, HOK, HA⟩ := hrel
    by_cases hlt : k < n
    · obtain ⟨c0, c1⟩ := HCELL.out (k + 1) (by omega)
      have hbk := HB.out (l.getD (k + 1) (0, 0)) (sample_mem (by rw [HL.out]; omega))
      have hd := drop_map (l := l) (k := k + 1) (by rw [HL.out]; omega)
      generalize l.getD (k + 1) (0, 0) = s1 at c0 c1 hbk hd
      obtain ⟨t1, v1⟩ := s1
      simp only at c0 c1 hbk hd
      have hbel := HA.out.2.2.2.2.2.2
      rw [show off + (k + 1) * 2 = off + 2 + k * 2 by omega, ← hbel.cell (World.block_lt_of_cell? w _ c0)] at c0
      rw [show off + (k + 1) * 2 + 1 = off + 2 + k * 2 + 1 by omega, ← hbel.cell (World.block_lt_of_cell? w _ c1)] at c1
      have m3 := fun w => one_any t1 v1 f w hbk.2 HF64.out
      have m4 := fun w => join_any a (.one v1 f) w HOK.out (one_ok HF.out hbk.2)
      have hok := join_ok HOK.out (one_ok HF.out hbk.2)
      have hgo := goOn_cons f a v1 ((l.map (·.2)).drop (k + 1 + 1)) rfl
      rw [← hd, ← HD.out] at hgo
      generalize join a (.one v1 f) = j at m4 hok hgo
      obtain ⟨ja, jc⟩ := j
      simp only at m4 hok hgo
      have M3 := Lib.hid m3
      have M4 := Lib.hid m4
      have HOK' := Lib.hid hok
      have HGO := Lib.hid hgo
      clear m3 m4 hok hgo hd hbk hbel HD HOK
      unfold Ag.val at M3 M4
      have HA9 : Hid (AllHolds w (wr.alloc (.cells #[.int .i64 t1, .int .i64 v1] 48)) g6 a) := Lib.hid (HA.out.below ((Below.refl _ _).alloc (Nat.le_refl _) _))
      have hcap : (k : Int) < (n : Int) := by omega
      have e0 : (wr.alloc (.cells #[.int .i64 t1, .int .i64 v1] 48)).cell? ⟨wr.heap.size, 0, none⟩ = some (.int .i64 t1) := by simp
      have e1 : (wr.alloc (.cells #[.int .i64 t1, .int .i64 v1] 48)).cell? ⟨wr.heap.size, 1, none⟩ = some (.int .i64 v1) := by simp
      have E0 := Lib.hid e0
      have E1 := Lib.hid e1
      clear e0 e1
      go_upto_region 7 with fail
      clear c0 c1
      have hc9 := E0.out
      have hc9' := E1.out
      obtain ⟨a0, a1, a2, a3, a4, a5, a6⟩ := HA9.out.1
      generalize wr.alloc (.cells #[.int .i64 t1, .int .i64 v1] 48) = ws at *
      generalize wr.heap.size = g9 at *
      have hS : ∀ w', Below ws.heap.size ws w' → w'.cell? ⟨g9, 0, none⟩ = some (.int .i64 t1) ∧ w'.cell? ⟨g9, 1, none⟩ = some (.int .i64 v1) ∧ w'.cell? ⟨g6, 0, none⟩ = some (.int .i64 a.fr) ∧ w'.cell? ⟨g6, 1, none⟩ = some (.int .i64 a.cn) ∧ w'.cell? ⟨g6, 2, none⟩ = some (.int .i64 a.sm) ∧ w'.cell? ⟨g6, 3, none⟩ = some (.int .i64 a.mn) ∧
          w'.cell? ⟨g6, 4, none⟩ = some (.int .i64 a.mx) ∧ w'.cell? ⟨g6, 5, none⟩ = some (.int .i64 a.fi) ∧ w'.cell? ⟨g6, 6, none⟩ = some (.int .i64 a.la) := fun w' hb => by
        refine ⟨?_, ?_, (HA9.out.below hb).1⟩
        · rw [hb.cell (World.block_lt_of_cell? ws _ E0.out)]; exact E0.out
        · rw [hb.cell (World.block_lt_of_cell? ws _ E1.out)]; exact E1.out
      have HS := Lib.hid hS
      clear hS
      go_region_with (first
          | (go_at_call 98; refine (M3.out _).mono ?_; rintro e wt ⟨rfl, hbt⟩; have hB : Below ws.heap.size ws wt := (belowN ws 1).trans hbt; obtain ⟨b0, b1, b2, b3, b4, b5, b6⟩ := (HA9.out.below hB).1)
          | (go_at_call 93; refine (M4.out _).mono ?_; rintro e wv ⟨rfl, hbv⟩; have hBv : Below ws.heap.size ws wv := hB.trans (hbv.mono hB.size); obtain ⟨z0, z1, z2, z3, z4, z5, z6⟩ := (HA9.out.below hBv).1; obtain ⟨f0, f1, f2, f3, f4, f5, f6⟩ := (HA9.out.below hBv).2.1))
      all_goals
        have HW := Lib.hid (AllHolds.set ja (HA9.out.below hBv))
        clear a0 a1 a2 a3 a4 a5 a6 b0 b1 b2 b3 b4 b5 b6 z0 z1 z2 z3 z4 z5 z6 f0 f1 f2 f3 f4 f5 f6 hc9 hc9' hbt hbv hB hBv HS E0 E1 HA9 HA M3 M4
        generalize ((((((wv.setCell ⟨g6, 0, none⟩ (.int .i64 ja.fr)).setCell ⟨g6, 1, none⟩ (.int .i64 ja.cn)).setCell ⟨g6, 2, none⟩ (.int .i64 ja.sm)).setCell ⟨g6, 3, none⟩ (.int .i64 ja.mn)).setCell ⟨g6, 4, none⟩ (.int .i64 ja.mx)).setCell ⟨g6, 5, none⟩ (.int .i64 ja.fi)).setCell ⟨g6, 6, none⟩ (.int .i64 ja.la) = wz at *
        by_cases hz : jc = 0
        · have HN := Lib.hid (HGO.out.trans (if_pos hz))
          subst hz
          go_wp2
          go_roundw
          case rel => exact ⟨k + 1, ja, by omega, by go_num, rfl, HN, HOK', HW⟩
          case measure => simp [intOf]; omega
        · have HN := Lib.hid (HGO.out.trans (if_neg hz))
          have hz' : (jc == 0) = false := by simpa using hz
          obtain ⟨d0, d1, d2, d3, d4, d5, d6⟩ := HW.out.1
          obtain ⟨z0, z1, z2, z3, z4, z5, z6⟩ := HW.out.2.2.2.2.1
          obtain ⟨f0, f1, f2, f3, f4, f5, f6⟩ := HW.out.2.2.2.2.2.1
          go_wp2
          (try rw [Exit.noGoto_ret])
          (try simp only [Exit.inBlock, Exit.then])
          refine bodyPost_ret (v := .tuple #[.agg #[.int .i64 ja.fr, .int .i64 ja.cn, .int .i64 ja.sm, .int .i64 ja.mn, .int .i64 ja.mx, .int .i64 ja.fi, .int .i64 ja.la], .int .i64 jc]) ?_ rfl ⟨?_, ?_⟩
          · rw [results_cell_tmp rfl]
            go_simp
          · have e := HN.out
            obtain ⟨fr, cn, sm, mn, mx, fi, la⟩ := ja
            injection e with e1 e2
            injection e1 with e1 e3 e4 e5 e6 e7 e8
            subst e1 e2 e3 e4 e5 e6 e7 e8
            rfl
          · exact below_set HW.out.2.2.2.2.2.2 (Nat.le_refl _) _ _ _ _ _ _ _
    · obtain ⟨d0, d1, d2, d3, d4, d5, d6⟩ := HA.out.1
      obtain ⟨z0, z1, z2, z3, z4, z5, z6⟩ := HA.out.2.2.2.2.1
      obtain ⟨f0, f1, f2, f3, f4, f5, f6⟩ := HA.out.2.2.2.2.2.1
      go_wp2
      (try rw [Exit.noGoto_ret])
      (try simp only [Exit.inBlock, Exit.then])
      refine bodyPost_ret (v := .tuple #[.agg #[.int .i64 a.fr, .int .i64 a.cn, .int .i64 a.sm, .int .i64 a.mn, .int .i64 a.mx, .int .i64 a.fi, .int .i64 a.la], .int .i64 0]) ?_ rfl ⟨?_, ?_⟩
      · rw [results_cell_tmp rfl]
        go_simp
      · have e := HD.out
        rw [List.drop_eq_nil_of_le (by rw [List.length_map, HL.out]; omega)] at e
        obtain ⟨fr, cn, sm, mn, mx, fi, la⟩ := a
        injection e with e1 e2
        injection e1 with e1 e3 e4 e5 e6 e7 e8
        subst e1 e2 e3 e4 e5 e6 e7 e8
        rfl
      · exact below_set HA.out.2.2.2.2.2.2 (Nat.le_refl _) _ _ _ _ _ _ _
end Go.Proofs.YtepancmkopifpaaGreatDoor
namespace Go.Proofs.YtepancmkopifpaaGreatDoor
open Go.RowKit
attribute [local go_sem ↓] Go.wp_at_zero Go.wp_at_succ

set_option maxRecDepth 100000 in
set_option maxHeartbeats 2000000 in
theorem all_one (b off cap : Nat) (t0 v0 : Int) (f : Int) (w : World) (hv : In64 v0) (hc : 1 ≤ cap) (hm : cap ≤ maxLen) (hf : Ag.begin_ f)
    (c0 : w.cell? ⟨b, off, none⟩ = some (.int .i64 t0)) (c1 : w.cell? ⟨b, off + 1, none⟩ = some (.int .i64 v0)) :
    Calls Tryz.prog 91 #[.slice (some ⟨b, off, none⟩) 1 cap, .int .i64 f] w fun e w' => e = .returned (.tuple #[(Ag.one v0 f).val, .int .i64 0]) ∧ Below w.heap.size w w' := by
  unfold maxLen at hm
  have hf64 : In64 f := by
    unfold Ag.begin_ at hf
    unfold In64
    omega
  have m1 := fun w => begin_any f w hf64
  rw [decide_eq_true hf] at m1
  have M1 := Lib.hid m1
  have m2 := fun w => one_any t0 v0 f w hv hf64
  have M2 := Lib.hid m2
  have hlt : b < w.heap.size := World.block_lt_of_cell? w _ c0
  have HZ : Hid (Holds (w.alloc (.cells #[.int .i64 0, .int .i64 0, .int .i64 0, .int .i64 0, .int .i64 0, .int .i64 0, .int .i64 0] 50)) w.heap.size Ag.zero ∧ Free (w.alloc (.cells #[.int .i64 0, .int .i64 0, .int .i64 0, .int .i64 0, .int .i64 0, .int .i64 0, .int .i64 0] 50)) w.heap.size ∧
      Below w.heap.size w (w.alloc (.cells #[.int .i64 0, .int .i64 0, .int .i64 0, .int .i64 0, .int .i64 0, .int .i64 0, .int .i64 0] 50)) ∧ w.heap.size < (w.alloc (.cells #[.int .i64 0, .int .i64 0, .int .i64 0, .int .i64 0, .int .i64 0, .int .i64 0, .int .i64 0] 50)).heap.size) := Lib.hid (by
    refine ⟨?_, ?_, (Below.refl _ _).alloc (Nat.le_refl _) _, by simp⟩
    · unfold Holds Ag.zero
      simp
    · unfold Free
      simp)
  generalize ha : Ag.one v0 f = a at *
  unfold Ag.val at *
  clear m1 m2 hf hf64 ha hv
  by_cases h1 : cap = 1
  · subst h1
    go_enter Tryz.func91, Tryz.ntmps91
    go_wp2
    go_step3
    go_wp2_with fail
    refine (M1.out _).mono ?_
    rintro e w2 ⟨rfl, rfl⟩
    go_wp2_with fail
    refine (M2.out _).mono ?_
    rintro e w2 ⟨rfl, hb2⟩
    have HH : Hid (AllHolds w (w2.alloc (.cells #[.int .i64 a.fr, .int .i64 a.cn, .int .i64 a.sm, .int .i64 a.mn, .int .i64 a.mx, .int .i64 a.fi, .int .i64 a.la] 50)) w2.heap.size a) := Lib.hid (by
      obtain ⟨z1, z2, z3, z4⟩ := HZ.out
      have hb3 := (Below.refl w2.heap.size w2).alloc (Nat.le_refl _) (.cells #[.int .i64 a.fr, .int .i64 a.cn, .int .i64 a.sm, .int .i64 a.mn, .int .i64 a.mx, .int .i64 a.fi, .int .i64 a.la] 50)
      refine ⟨?_, ?_, by simp, Nat.lt_of_lt_of_le z4 hb2.size, (z1.below hb2).below hb3, (z2.below z4 hb2).below (Nat.lt_of_lt_of_le z4 hb2.size) hb3, (z3.trans (hb2.mono z3.size)).trans (hb3.mono (Nat.le_trans z3.size hb2.size))⟩
      · unfold Holds
        simp
      · unfold Free
        simp)
    clear hb2 HZ c0 c1
    go_wp2
    go_step3
    go_wp2
    refine wp_loop_rounds 1 ?_
    rw [rounds_succ]
    obtain ⟨d0, d1, d2, d3, d4, d5, d6⟩ := HH.out.1
    obtain ⟨z0, z1, z2, z3, z4, z5, z6⟩ := HH.out.2.2.2.2.1
    obtain ⟨f0, f1, f2, f3, f4, f5, f6⟩ := HH.out.2.2.2.2.2.1
    have hlt2 := HH.out.2.2.2.1
    generalize w2.alloc (.cells #[.int .i64 a.fr, .int .i64 a.cn, .int .i64 a.sm, .int .i64 a.mn, .int .i64 a.mx, .int .i64 a.fi, .int .i64 a.la] 50) = wz at *
    generalize w2.heap.size = g6 at *
    go_wp2
    (try rw [Exit.noGoto_ret])
    (try simp only [Exit.inBlock, Exit.then])
    refine bodyPost_ret (v := .tuple #[.agg #[.int .i64 a.fr, .int .i64 a.cn, .int .i64 a.sm, .int .i64 a.mn, .int .i64 a.mx, .int .i64 a.fi, .int .i64 a.la], .int .i64 0]) ?_ rfl ⟨rfl, ?_⟩
    · rw [results_cell_tmp rfl]
      go_simp
    · exact below_set HH.out.2.2.2.2.2.2 (Nat.le_refl _) _ _ _ _ _ _ _
  · have h1c : 1 < cap := by omega
    go_enter Tryz.func91, Tryz.ntmps91
    go_wp2
    go_step3
    go_wp2_with fail
    refine (M1.out _).mono ?_
    rintro e w2 ⟨rfl, rfl⟩
    go_wp2_with fail
    refine (M2.out _).mono ?_
    rintro e w2 ⟨rfl, hb2⟩
    have HH : Hid (AllHolds w (w2.alloc (.cells #[.int .i64 a.fr, .int .i64 a.cn, .int .i64 a.sm, .int .i64 a.mn, .int .i64 a.mx, .int .i64 a.fi, .int .i64 a.la] 50)) w2.heap.size a) := Lib.hid (by
      obtain ⟨z1, z2, z3, z4⟩ := HZ.out
      have hb3 := (Below.refl w2.heap.size w2).alloc (Nat.le_refl _) (.cells #[.int .i64 a.fr, .int .i64 a.cn, .int .i64 a.sm, .int .i64 a.mn, .int .i64 a.mx, .int .i64 a.fi, .int .i64 a.la] 50)
      refine ⟨?_, ?_, by simp, Nat.lt_of_lt_of_le z4 hb2.size, (z1.below hb2).below hb3, (z2.below z4 hb2).below (Nat.lt_of_lt_of_le z4 hb2.size) hb3, (z3.trans (hb2.mono z3.size)).trans (hb3.mono (Nat.le_trans z3.size hb2.size))⟩
      · unfold Holds
        simp
      · unfold Free
        simp)
    clear hb2 HZ c0 c1
    go_wp2
    go_step3
    go_wp2
    refine wp_loop_rounds 1 ?_
    rw [rounds_succ]
    obtain ⟨d0, d1, d2, d3, d4, d5, d6⟩ := HH.out.1
    obtain ⟨z0, z1, z2, z3, z4, z5, z6⟩ := HH.out.2.2.2.2.1
    obtain ⟨f0, f1, f2, f3, f4, f5, f6⟩ := HH.out.2.2.2.2.2.1
    have hlt2 := HH.out.2.2.2.1
    generalize w2.alloc (.cells #[.int .i64 a.fr, .int .i64 a.cn, .int .i64 a.sm, .int .i64 a.mn, .int .i64 a.mx, .int .i64 a.fi, .int .i64 a.la] 50) = wz at *
    generalize w2.heap.size = g6 at *
    go_wp2
    (try rw [Exit.noGoto_ret])
    (try simp only [Exit.inBlock, Exit.then])
    refine bodyPost_ret (v := .tuple #[.agg #[.int .i64 a.fr, .int .i64 a.cn, .int .i64 a.sm, .int .i64 a.mn, .int .i64 a.mx, .int .i64 a.fi, .int .i64 a.la], .int .i64 0]) ?_ rfl ⟨rfl, ?_⟩
    · rw [results_cell_tmp rfl]
      go_simp
    · exact below_set HH.out.2.2.2.2.2.2 (Nat.le_refl _) _ _ _ _ _ _ _

set_option maxRecDepth 100000 in
theorem all_none (f : Int) (w : World) :
    Calls Tryz.prog 91 #[.slice none 0 0, .int .i64 f] w fun e w' => e = .returned (.tuple #[Ag.zero.val, .int .i64 1]) ∧ Below w.heap.size w w' := by
  unfold Ag.val Ag.zero
  go_enter Tryz.func91, Tryz.ntmps91
  go_wp2
  go_step3
  go_wp2
  (try rw [Exit.noGoto_ret])
  (try simp only [Exit.inBlock, Exit.then])
  refine bodyPost_ret (v := .tuple #[.agg #[.int .i64 0, .int .i64 0, .int .i64 0, .int .i64 0, .int .i64 0, .int .i64 0, .int .i64 0], .int .i64 1]) ?_ rfl ⟨rfl, ?_⟩
  · rw [results_cell_tmp rfl]
    go_simp
  · exact (Below.refl _ _).alloc (Nat.le_refl _) _

/-- All at every row of samples that is not empty. -/
theorem all_any {A : Option Addr} {len cap : Nat} {l : List (Int × Int)} (f : Int) {w : World} (hl : l.length = len) (hlen : 1 ≤ len) (hS : Samps w A l) (hc : len ≤ cap) (hm : cap ≤ maxLen) (hf : Ag.begin_ f) :
    Calls Tryz.prog 91 #[.slice A len cap, .int .i64 f] w fun e w' => e = .returned (.tuple #[(all f (l.map (·.2))).1.val, .int .i64 (all f (l.map (·.2))).2]) ∧ Below w.heap.size w w' := by
  obtain ⟨b, off, rfl, hcell⟩ := hS.2 (by omega)
  by_cases h1 : len = 1
  · subst h1
    obtain ⟨c0, c1⟩ := hcell 0 (by omega)
    have hv := (hS.1 _ (sample_mem (l := l) (j := 0) (by omega))).2
    have e : all f (l.map (·.2)) = (Ag.one (l.getD 0 (0, 0)).2 f, 0) := by
      rw [all_at (by omega) hf, List.drop_eq_nil_of_le (by rw [List.length_map, hl]; decide)]
      rfl
    rw [e]
    simp only [Nat.zero_mul, Nat.add_zero] at c0 c1
    exact all_one b off cap _ _ f w hv hc hm hf c0 c1
  · obtain ⟨n, rfl⟩ : ∃ n, len = n + 1 := ⟨len - 1, by omega⟩
    exact all_in b off n cap l f w hl (by omega) hS.1 hc hm hf (by rw [← hl]; exact hcell)

theorem Samps.below {w w' : World} {A : Option Addr} {l : List (Int × Int)} (h : Samps w A l) (hb : Below w.heap.size w w') : Samps w' A l := by
  refine ⟨h.1, fun hp => ?_⟩
  obtain ⟨b, off, rfl, hc⟩ := h.2 hp
  refine ⟨b, off, rfl, fun j hj => ?_⟩
  obtain ⟨h0, h1⟩ := hc j hj
  rw [hb.cell (World.block_lt_of_cell? w _ h0), hb.cell (World.block_lt_of_cell? w _ h1)]
  exact ⟨h0, h1⟩
theorem Samps.take {w : World} {A : Option Addr} {l : List (Int × Int)} (h : Samps w A l) (k : Nat) : Samps w A (l.take k) := by
  refine ⟨fun s hs => h.1 s (List.mem_of_mem_take hs), fun hp => ?_⟩
  rw [List.length_take] at hp
  obtain ⟨b, off, e, hc⟩ := h.2 (by omega)
  refine ⟨b, off, e, fun j hj => ?_⟩
  rw [List.length_take] at hj
  have e : (l.take k).getD j (0, 0) = l.getD j (0, 0) := by
    rw [List.getD_eq_getElem?_getD, List.getD_eq_getElem?_getD, List.getElem?_take, if_pos (by omega)]
  rw [e]
  exact hc j (by omega)
theorem Samps.drop {w : World} {b off : Nat} {l : List (Int × Int)} (h : Samps w (some ⟨b, off, none⟩) l) (k : Nat) : Samps w (some ⟨b, off + k * 2, none⟩) (l.drop k) := by
  refine ⟨fun s hs => h.1 s (List.mem_of_mem_drop hs), fun hp => ?_⟩
  rw [List.length_drop] at hp
  obtain ⟨b', off', e, hc⟩ := h.2 (by omega)
  injection e with e
  injection e with e1 e2
  subst e1 e2
  refine ⟨b, off + k * 2, rfl, fun j hj => ?_⟩
  rw [List.length_drop] at hj
  have e : (l.drop k).getD j (0, 0) = l.getD (k + j) (0, 0) := by
    rw [List.getD_eq_getElem?_getD, List.getD_eq_getElem?_getD, List.getElem?_drop]
  rw [e, show off + k * 2 + j * 2 = off + (k + j) * 2 by omega]
  exact hc (k + j) (by omega)
end Go.Proofs.YtepancmkopifpaaGreatDoor
set_option maxRecDepth 100000
namespace Go.Proofs.YtepancmkopifpaaGreatDoor
open Go.RowKit Go.ChangeShapes Go.WideShapes

theorem fits_i64 {a : Int} (h : (Lit.int .i64 a).wf = true) : In64 a := by
  unfold In64
  simpa [Lit.wf, IntKind.min, IntKind.max, IntKind.bits, IntKind.signed] using h
theorem past {w w2 w3 : World} (h : Below w.heap.size w w2) (h3 : Below w2.heap.size w2 w3) : Below w.heap.size w w3 := h.trans (h3.mono h.size)
theorem past_alloc {w w2 : World} (h : Below w.heap.size w w2) (o : Obj) : Below w.heap.size w (w2.alloc o) := h.alloc h.size o

theorem Holds.new (w : World) (a : Ag) : Holds (w.alloc (.cells #[.int .i64 a.fr, .int .i64 a.cn, .int .i64 a.sm, .int .i64 a.mn, .int .i64 a.mx, .int .i64 a.fi, .int .i64 a.la] 50)) w.heap.size a := by
  unfold Holds
  simp
theorem Holds.past {w : World} {g : Nat} {a : Ag} (h : Holds w g a) (o : Obj) : Holds (w.alloc o) g a := h.below ((Below.refl _ _).alloc (Nat.le_refl _) _)
theorem Holds.lt {w : World} {g : Nat} {a : Ag} (h : Holds w g a) : g < w.heap.size := World.block_lt_of_cell? w _ h.1

theorem wrap_nat (a : Int) : ∃ U : Nat, IntKind.u64.wrap a = (U : Int) := by
  refine ⟨(IntKind.u64.wrap a).toNat, ?_⟩
  rw [IntKind.wrap_u64]
  omega

theorem addr_add (b off j : Nat) : (⟨b, off, none⟩ : Addr).add j = ⟨b, off + j, none⟩ := by
  unfold Addr.add
  split
  · next e => rw [e]; rfl
  · rfl
theorem cells2 : Tryz.prog.cellsOf 2 = 1 := by kernel_rfl
theorem cells26 : Tryz.prog.cellsOf 50 = 7 := by kernel_rfl

section
variable {H : Type} {enc : TypeId × Value → H} {W : World} {base : Nat} {spare : Nat → Bool} {held : Bool}

/-- One cell that is read as a number. -/
theorem cell_int {fuel : Nat} {v : Value} {x : DataW H × List MemPlace} (h : DataW.trod enc Tryz.prog W base spare held fuel 2 [v] = some x) : ∃ n, v = .int .i64 n ∧ In64 n := by
  obtain ⟨n, e, _, hw⟩ := DataW.trod_int Tryz.underlying2 h
  injection e with e
  exact ⟨n, e, fits_i64 hw⟩

/-- An aggregate, by value. -/
theorem open_ag {r : Reach} {b0 : Nat} {v : Value} {d : DataW H} {p : List MemPlace} (hv : Value.okWide Tryz.prog W r b0 50 v) (h : DataW.Trod enc Tryz.prog W base spare held 50 v d p) : ∃ a : Ag, v = a.val ∧ a.ok := by
  obtain ⟨cs, rfl, hsz⟩ := okWide_struct Tryz.underlying50 hv
  obtain ⟨l⟩ := cs
  obtain ⟨fuel, hf⟩ := h
  obtain ⟨xs, n, _, _, _, hlen, hg⟩ := DataW.trod_struct Tryz.underlying50 hf
  have key : ∀ (i : Nat) (c : Value), i < 7 → l[i]? = some c → (∃ y, DataW.trod enc Tryz.prog W base spare held n 2 ((l.drop i).take 1) = some y) → ∃ z, c = .int .i64 z ∧ In64 z := by
    intro i c _ hc ⟨y, hy⟩
    have e : (l.drop i).take 1 = [c] := by
      have hi := (List.getElem?_eq_some_iff.1 hc)
      obtain ⟨hi, rfl⟩ := hi
      rw [List.drop_eq_getElem_cons hi]
      rfl
    rw [e] at hy
    exact cell_int hy
  have some_ : ∀ i, i < 7 → ∃ y, xs[i]? = some y := fun i hi => ⟨_, List.getElem?_eq_getElem (by rw [hlen]; exact hi)⟩
  have g : ∀ (i : Nat) (f : Field), (#[⟨"From", 2, 0, false, "", "", 0⟩, ⟨"Count", 2, 1, false, "", "", 8⟩, ⟨"Sum", 2, 2, false, "", "", 16⟩, ⟨"Min", 2, 3, false, "", "", 24⟩, ⟨"Max", 2, 4, false, "", "", 32⟩, ⟨"First", 2, 5, false, "", "", 40⟩, ⟨"Last", 2, 6, false, "", "", 48⟩] : Array Field)[i]? = some f → f.type = 2 → f.offset = i → i < 7 →
      ∃ y, DataW.trod enc Tryz.prog W base spare held n 2 ((l.drop i).take 1) = some y := by
    intro i f hf ht ho hi
    obtain ⟨y, hy⟩ := some_ i hi
    refine ⟨y, ?_⟩
    have := hg i f hf
    rw [ht, ho, cells2, hy] at this
    exact this
  have hl : l.length = 7 := by rw [← cells26, ← hsz]; rfl
  have h0 := g 0 _ rfl rfl rfl (by decide)
  have h1 := g 1 _ rfl rfl rfl (by decide)
  have h2 := g 2 _ rfl rfl rfl (by decide)
  have h3 := g 3 _ rfl rfl rfl (by decide)
  have h4 := g 4 _ rfl rfl rfl (by decide)
  have h5 := g 5 _ rfl rfl rfl (by decide)
  have h6 := g 6 _ rfl rfl rfl (by decide)
  clear g hg some_ hf hlen hsz hv
  match l, hl with
  | [c0, c1, c2, c3, c4, c5, c6], _ =>
    obtain ⟨z0, rfl, o0⟩ := key 0 c0 (by decide) rfl h0
    obtain ⟨z1, rfl, o1⟩ := key 1 c1 (by decide) rfl h1
    obtain ⟨z2, rfl, o2⟩ := key 2 c2 (by decide) rfl h2
    obtain ⟨z3, rfl, o3⟩ := key 3 c3 (by decide) rfl h3
    obtain ⟨z4, rfl, o4⟩ := key 4 c4 (by decide) rfl h4
    obtain ⟨z5, rfl, o5⟩ := key 5 c5 (by decide) rfl h5
    obtain ⟨z6, rfl, o6⟩ := key 6 c6 (by decide) rfl h6
    exact ⟨⟨z0, z1, z2, z3, z4, z5, z6⟩, rfl, o0, o1, o2, o3, o4, o5, o6⟩

def numOf : Value → Int
  | .int _ n => n
  | _ => 0

/-- A row of samples. -/
theorem open_samples {a : Option Addr} {len cap : Nat} {d : DataW H} {p : List MemPlace} (h : DataW.Trod enc Tryz.prog W base (fun _ => true) held 22 (.slice a len cap) d p) :
    ∃ l : List (Int × Int), l.length = len ∧ Samps W a l ∧ len ≤ cap ∧ cap ≤ maxLen ∧ (a = none → cap = 0) := by
  obtain ⟨fuel, hf⟩ := h
  rcases Go.Deep.open_slice_pairs Tryz.underlying22 Tryz.underlying48 (by kernel_rfl) rfl rfl (by kernel_rfl) (by kernel_rfl) hf with ⟨hcs, _⟩ | ⟨x, l, c, m, n, V0, V1, D0, D1, P0, P1, hcs, _, hl, hm, hmm, _, hc⟩
  · simp [Value.cells] at hcs
    obtain ⟨rfl, rfl, rfl⟩ := hcs
    exact ⟨[], rfl, ⟨by simp, fun hp => absurd hp (by decide)⟩, by decide, by decide, fun _ => rfl⟩
  · simp [Value.cells] at hcs
    obtain ⟨rfl, rfl, rfl⟩ := hcs
    simp only [if_true] at hmm
    subst hmm
    have hv : ∀ i, i < len → ∃ z0 z1, V0 i = .int .i64 z0 ∧ V1 i = .int .i64 z1 ∧ In64 z0 ∧ In64 z1 := fun i hi => by
      obtain ⟨_, _, h0, h1⟩ := hc i (by omega)
      obtain ⟨z0, e0, i0⟩ := cell_int h0
      obtain ⟨z1, e1, i1⟩ := cell_int h1
      exact ⟨z0, z1, e0, e1, i0, i1⟩
    refine ⟨(List.range len).map fun i => (numOf (V0 i), numOf (V1 i)), by simp, ⟨?_, fun hp => ?_⟩, hl, hm, fun e => by cases e⟩
    · intro s hs
      obtain ⟨i, hi, rfl⟩ := List.mem_map.1 hs
      obtain ⟨z0, z1, e0, e1, i0, i1⟩ := hv i (List.mem_range.1 hi)
      rw [e0, e1]
      exact ⟨i0, i1⟩
    · obtain ⟨b, off, spot⟩ := x
      have hlen : 0 < len := by simpa using hp
      have hs : spot = none := by simpa [Addr.add] using World.cell?_spot (hc 0 (by omega)).1
      subst hs
      refine ⟨b, off, rfl, fun j hj => ?_⟩
      have hj' : j < len := by simpa using hj
      obtain ⟨h0, h1, _, _⟩ := hc j (by omega)
      obtain ⟨z0, z1, e0, e1, i0, i1⟩ := hv j hj'
      have e : ((List.range len).map fun i => (numOf (V0 i), numOf (V1 i))).getD j (0, 0) = (z0, z1) := by
        simp [hj', e0, e1, numOf]
      rw [e]
      rw [addr_add] at h0 h1
      exact ⟨by rw [h0, e0], by rw [Nat.add_assoc, h1, e1]⟩
end
theorem Tryz.info48 : (Tryz.prog.info? 48).map (fun i => (i.zero, i.size, i.bytes)) = some (some (.agg #[.int .i64 0, .int .i64 0]), 2, 16) := by kernel_rfl

def sampV (l : List (Int × Int)) : List Value := l.flatMap fun s => [.int .i64 s.1, .int .i64 s.2]
theorem sampV_append (a b : List (Int × Int)) : sampV (a ++ b) = sampV a ++ sampV b := by simp [sampV]
theorem sampV_length (a : List (Int × Int)) : (sampV a).length = a.length * 2 := by
  induction a with
  | nil => rfl
  | cons s r ih =>
    have e : sampV (s :: r) = .int .i64 s.1 :: .int .i64 s.2 :: sampV r := rfl
    rw [e, List.length_cons, List.length_cons, List.length_cons, ih]
    omega
theorem sampV_get (l : List (Int × Int)) : ∀ j, j < l.length → (sampV l)[j * 2]? = some (.int .i64 (l.getD j (0, 0)).1) ∧ (sampV l)[j * 2 + 1]? = some (.int .i64 (l.getD j (0, 0)).2) := by
  induction l with
  | nil => intro j hj; simp at hj
  | cons s r ih =>
    intro j hj
    have e : sampV (s :: r) = .int .i64 s.1 :: .int .i64 s.2 :: sampV r := rfl
    rw [e]
    match j with
    | 0 => simp
    | j + 1 =>
      have h := ih j (by simpa using hj)
      rw [show (j + 1) * 2 = j * 2 + 1 + 1 by omega]
      simpa using h
theorem sampV_one (l : List (Int × Int)) : ∀ u ∈ sampV l, u.oneCell' = true := by
  intro u hu
  unfold sampV at hu
  obtain ⟨c, _, hc⟩ := List.mem_flatMap.1 hu
  simp at hc
  rcases hc with rfl | rfl <;> rfl
theorem sampV_set (l : List (Int × Int)) (v : Int) : ∀ j, (sampV l).set (j * 2 + 1) (.int .i64 v) = sampV (l.set j ((l.getD j (0, 0)).1, v)) := by
  induction l with
  | nil => intro j; rfl
  | cons s r ih =>
    intro j
    have e : sampV (s :: r) = .int .i64 s.1 :: .int .i64 s.2 :: sampV r := rfl
    rw [e]
    match j with
    | 0 => rfl
    | j + 1 =>
      rw [show (j + 1) * 2 + 1 = j * 2 + 1 + 1 + 1 by omega]
      simp only [List.set_cons_succ]
      rw [ih j]
      rfl

def In2 (l : List (Int × Int)) : Prop := ∀ s ∈ l, In64 s.1 ∧ In64 s.2

/-- What a row of the call's own gives a reader. -/
theorem Samps.own {w : World} {base g n cap : Nat} {l : List (Int × Int)} (h : w.ownsRow base 48 2 (.slice (some ⟨g, 0, none⟩) n cap) n (sampV l)) (hb : In2 l) :
    Samps w (some ⟨g, 0, none⟩) l ∧ l.length = n ∧ n ≤ cap ∧ cap ≤ maxLen ∧ base ≤ g ∧ g < w.heap.size := by
  have hn : l.length = n := by have := h.1; rw [sampV_length] at this; omega
  refine ⟨⟨hb, fun hp => ⟨g, 0, rfl, fun j hj => ?_⟩⟩, hn, ?_⟩
  · have hg := sampV_get l j hj
    rw [Nat.zero_add]
    rw [h.cellAt (j * 2) (by omega), h.cellAt (j * 2 + 1) (by omega)]
    exact hg
  · rcases h.2 with ⟨e, _⟩ | ⟨g', cap', cur, e, hbg, hh, h1, h2, _⟩
    · cases e
    · injection e with e1 e2 e3
      injection e1 with e1
      injection e1 with e1
      subst e1 e3
      refine ⟨h1, h2, hbg, ?_⟩
      rcases Nat.lt_or_ge g w.heap.size with hlt | hge
      · exact hlt
      · rw [Array.getElem?_eq_none hge] at hh; cases hh
theorem Samps.news {w : World} {b off : Nat} {l : List (Int × Int)} (h : Samps w (some ⟨b, off, none⟩) l) : ∀ j u, (sampV l)[j]? = some u → w.cell? ((⟨b, off, none⟩ : Addr).add j) = some u := by
  intro j u hj
  have hj2 : j < l.length * 2 := by
    rcases Nat.lt_or_ge j (l.length * 2) with hlt | hge
    · exact hlt
    · rw [List.getElem?_eq_none (by rw [sampV_length]; exact hge)] at hj; cases hj
  obtain ⟨b', off', e, hc⟩ := h.2 (by omega)
  injection e with e
  injection e with e1 e2
  subst e1 e2
  have hd := hc (j / 2) (by omega)
  have hg := sampV_get l (j / 2) (by omega)
  rw [addr_add]
  rcases Nat.mod_two_eq_zero_or_one j with hm | hm
  · have ej : j / 2 * 2 = j := by omega
    rw [ej] at hd hg
    rw [hd.1, ← hg.1, hj]
  · have ej : j / 2 * 2 + 1 = j := by omega
    rw [Nat.add_assoc, ej] at hd
    rw [ej] at hg
    rw [hd.2, ← hg.2, hj]
theorem own_below {w w' : World} {base n : Nat} {v : Value} {xs : List Value} (h : w.ownsRow base 48 2 v n xs) (hb : Below w.heap.size w w') : w'.ownsRow base 48 2 v n xs :=
  h.kept (row := none) ⟨hb.os, hb.tape, hb.output, hb.size, fun k hk _ => hb.block k hk⟩ (by cases v.ownBlock <;> simp)

/-- A value's remainder by a billion. -/
def bil (v : Int) : Int := v.tmod 1000000000
theorem bil_lt (v : Int) : -1000000000 < bil v ∧ bil v < 1000000000 := by
  have h1 := Int.tmod_lt_of_pos v (b := 1000000000) (by decide)
  have h2 := Int.lt_tmod_of_pos v (b := 1000000000) (by decide)
  exact ⟨h2, h1⟩
def bils (l : List (Int × Int)) : List (Int × Int) := l.map fun s => (s.1, bil s.2)
end Go.Proofs.YtepancmkopifpaaGreatDoor
