/-
  Width, mayTime, Floor, isCoarse: what each returns at every argument, where the widths lie as the program lays them; nothing is written.
-/
import Derived.Test.YtfojciolhokejaaDoorMath
import Derived.Test.YtfojciolhokejaaDoorLeaf
namespace Go.Proofs.YtfojciolhokejaaDoor
open Go.RowKit

/-- The table of widths lies as the program lays it. -/
def Wid (w : World) : Prop := ∀ i : Nat, i < 4 → w.cell? ⟨0, i, none⟩ = some (.int .i64 (wid (i : Int)))
theorem Wid.below {w w' : World} (h : Wid w) (hb : Below w.heap.size w w') : Wid w' := fun i hi => by
  rw [hb.cell (World.block_lt_of_cell? w _ (h i hi))]; exact h i hi

theorem width_any (k : Int) (w : World) (hk : In64 k) (hw : Wid w) : Calls Tryd.prog 34 #[.int .i64 k] w fun e w' => e = .returned (.int .i64 (wid k)) ∧ w = w' := by
  by_cases h1 : k < 0
  · rw [wid_none (.inl h1)]
    go_enter Tryd.func34, Tryd.ntmps34
    go_wp2
    go_ret
    exact ⟨rfl, rfl⟩
  by_cases h2 : 4 ≤ k
  · rw [wid_none (.inr h2)]
    go_enter Tryd.func34, Tryd.ntmps34
    go_wp2
    go_ret
    exact ⟨rfl, rfl⟩
  obtain ⟨i, rfl⟩ := Int.eq_ofNat_of_zero_le (show 0 ≤ k by omega)
  have hc := hw i (by omega)
  have hi : i < 4 := by omega
  have h3 : (i : Int) < 4 := by omega
  obtain ⟨R, hR⟩ : ∃ R, wid (i : Int) = R := ⟨_, rfl⟩
  rw [hR] at hc ⊢
  clear hR hk hw
  go_enter Tryd.func34, Tryd.ntmps34
  go_wp2
  go_ret
  exact ⟨rfl, rfl⟩

theorem mayT_any (f : Int) (w : World) (hf : In64 f) : Calls Tryd.prog 43 #[.int .i64 f] w fun e w' => e = .returned (.bool (decide (Ag.begin_ f))) ∧ w = w' := by
  obtain ⟨B, hB⟩ : ∃ B, B = decide (Ag.begin_ f) := ⟨_, rfl⟩
  rw [← hB]
  unfold Ag.begin_ at hB
  obtain ⟨l, u⟩ := hf
  have HB := Lib.hid hB
  clear hB
  by_cases h1 : 0 ≤ f
  · by_cases h2 : f ≤ 1099511627776
    · go_enter Tryd.func43, Tryd.ntmps43
      go_wp2
      go_ret
      exact ⟨ret_bool (by rw [HB.out]; simp [*]), rfl⟩
    · go_enter Tryd.func43, Tryd.ntmps43
      go_wp2
      go_ret
      exact ⟨ret_bool (by rw [HB.out]; simp [*]), rfl⟩
  · go_enter Tryd.func43, Tryd.ntmps43
    go_wp2
    go_ret
    exact ⟨ret_bool (by rw [HB.out]; exact (decide_eq_false (by omega)).symm), rfl⟩

theorem coarse_any (k : Int) (w : World) (hk : In64 k) : Calls Tryd.prog 48 #[.int .i64 k] w fun e w' => e = .returned (.bool (decide (coarse k))) ∧ w = w' := by
  obtain ⟨B, hB⟩ : ∃ B, B = decide (coarse k) := ⟨_, rfl⟩
  rw [← hB]
  unfold coarse at hB
  obtain ⟨l, u⟩ := hk
  have HB := Lib.hid hB
  clear hB
  by_cases h1 : 1 ≤ k
  · by_cases h2 : k < 4
    · go_enter Tryd.func48, Tryd.ntmps48
      go_wp2
      go_ret
      exact ⟨ret_bool (by rw [HB.out]; exact (decide_eq_true (by omega)).symm), rfl⟩
    · go_enter Tryd.func48, Tryd.ntmps48
      go_wp2
      go_ret
      exact ⟨ret_bool (by rw [HB.out]; exact (decide_eq_false (by omega)).symm), rfl⟩
  · go_enter Tryd.func48, Tryd.ntmps48
    go_wp2
    go_ret
    exact ⟨ret_bool (by rw [HB.out]; exact (decide_eq_false (by omega)).symm), rfl⟩

theorem floor_any (t k : Int) (w : World) (ht : In64 t) (hk : In64 k) (hw : Wid w) : Calls Tryd.prog 50 #[.int .i64 t, .int .i64 k] w fun e w' => e = .returned (.int .i64 (flr t k)) ∧ w = w' := by
  have m1 := fun w hw => width_any k w hk hw
  have m2 := fun w => mayT_any t w ht
  have M1 := Lib.hid m1
  have HW := Lib.hid hw
  have hb := wid_bounds k
  have hf := flr_some (t := t) (k := k)
  have hn := flr_none (t := t) (k := k)
  obtain ⟨F, hF⟩ : ∃ F, flr t k = F := ⟨_, rfl⟩
  obtain ⟨V, hV⟩ : ∃ V, wid k = V := ⟨_, rfl⟩
  rw [hF] at hf hn ⊢
  rw [hV] at hf hn hb M1
  clear hF hV m1 hw
  by_cases h0 : V = 0
  · have HN := Lib.hid (hn (.inl h0))
    subst h0
    clear hf hn m2
    go_enter Tryd.func50, Tryd.ntmps50
    go_wp2_with fail
    refine (M1.out _ HW.out).mono ?_
    rintro e w2 ⟨rfl, rfl⟩
    go_wp2
    go_ret
    exact ⟨by rw [HN.out]; rfl, rfl⟩
  have h0' : (V == 0) = false := by simpa using h0
  by_cases h1 : Ag.begin_ t
  · rw [decide_eq_true h1] at m2
    have M2 := Lib.hid m2
    have HF := hf h0 h1
    unfold Ag.begin_ at h1
    unfold In64 at *
    have hr : t.tmod V = t % V := Int.tmod_eq_emod_of_nonneg h1.1
    have h3 := Int.emod_nonneg t h0
    have h5 : t % V ≤ t := emod_le h1.1 (by omega)
    obtain ⟨R, hR⟩ : ∃ R, t % V = R := ⟨_, rfl⟩
    rw [hR] at hr HF h3 h5
    have hs : IntKind.i64.wrap (t - R) = F := by rw [IntKind.wrap_i64]; omega
    have hrr : IntKind.i64.wrap R = R := by rw [IntKind.wrap_i64]; omega
    have hF1 : -1 < F := by omega
    have hne : V ≠ -1 := by omega
    clear hf hn m2 HF hR
    go_enter Tryd.func50, Tryd.ntmps50
    go_wp2_with fail
    refine (M1.out _ HW.out).mono ?_
    rintro e w2 ⟨rfl, rfl⟩
    go_wp2_with fail
    refine (M2.out _).mono ?_
    rintro e w2 ⟨rfl, rfl⟩
    go_wp2
    go_ret
    exact ⟨rfl, rfl⟩
  · rw [decide_eq_false h1] at m2
    have M2 := Lib.hid m2
    have HN := Lib.hid (hn (.inr h1))
    clear hf hn m2 h0 h1
    go_enter Tryd.func50, Tryd.ntmps50
    go_wp2_with fail
    refine (M1.out _ HW.out).mono ?_
    rintro e w2 ⟨rfl, rfl⟩
    go_wp2_with fail
    refine (M2.out _).mono ?_
    rintro e w2 ⟨rfl, rfl⟩
    go_wp2
    go_ret
    exact ⟨by rw [HN.out]; rfl, rfl⟩
end Go.Proofs.YtfojciolhokejaaDoor
