/-
  The document's own answers that call few others: Width, Floor, Add, One, MayAgg: what each returns at every argument; nothing that was there is written.
-/
import Derived.Test.YtfojciolhokejaaDoorTLeaf
import Derived.Test.YtfojciolhokejaaDoorFoldKit
namespace Go.Proofs.YtfojciolhokejaaDoor
open Go.RowKit
set_option linter.unusedVariables false

theorem rwidth_any (k : Int) (w : World) (hk : In64 k) : Calls Tryd.prog 37 #[.int .i64 k] w fun e w' => e = .returned (.int .i64 (wid k)) ∧ w = w' := by
  by_cases h0 : k = 0
  · subst h0
    go_enter Tryd.func37, Tryd.ntmps37
    go_wp2
    go_ret
    exact ⟨rfl, rfl⟩
  by_cases h1 : k = 1
  · subst h1
    go_enter Tryd.func37, Tryd.ntmps37
    go_wp2
    go_ret
    exact ⟨rfl, rfl⟩
  by_cases h2 : k = 2
  · subst h2
    go_enter Tryd.func37, Tryd.ntmps37
    go_wp2
    go_ret
    exact ⟨rfl, rfl⟩
  by_cases h3 : k = 3
  · subst h3
    go_enter Tryd.func37, Tryd.ntmps37
    go_wp2
    go_ret
    exact ⟨rfl, rfl⟩
  have e : wid k = 0 := by unfold wid; rw [if_neg h0, if_neg h1, if_neg h2, if_neg h3]
  rw [e]
  have b0 : (k == 0) = false := by simpa using h0
  have b1 : (k == 1) = false := by simpa using h1
  have b2 : (k == 2) = false := by simpa using h2
  have b3 : (k == 3) = false := by simpa using h3
  clear h0 h1 h2 h3 e hk
  go_enter Tryd.func37, Tryd.ntmps37
  go_wp2
  go_ret
  exact ⟨rfl, rfl⟩

theorem rfloor_any (t k : Int) (w : World) (ht : In64 t) (hk : In64 k) : Calls Tryd.prog 41 #[.int .i64 t, .int .i64 k] w fun e w' => e = .returned (.int .i64 (flr t k)) ∧ w = w' := by
  have m1 := fun w => rwidth_any k w hk
  have M1 := Lib.hid m1
  have hb := wid_bounds k
  have hf := flr_some (t := t) (k := k)
  have hn := flr_none (t := t) (k := k)
  obtain ⟨F, hF⟩ : ∃ F, flr t k = F := ⟨_, rfl⟩
  obtain ⟨V, hV⟩ : ∃ V, wid k = V := ⟨_, rfl⟩
  rw [hF] at hf hn ⊢
  rw [hV] at hf hn hb M1
  clear hF hV m1
  by_cases h1 : t < 0
  · have HN := Lib.hid (hn (.inr (fun h => by unfold Ag.begin_ at h; omega)))
    clear hf hn
    go_enter Tryd.func41, Tryd.ntmps41
    go_wp2
    go_ret
    exact ⟨by rw [HN.out]; rfl, rfl⟩
  by_cases h2 : 1099511627776 < t
  · have HN := Lib.hid (hn (.inr (fun h => by unfold Ag.begin_ at h; omega)))
    clear hf hn
    go_enter Tryd.func41, Tryd.ntmps41
    go_wp2
    go_ret
    exact ⟨by rw [HN.out]; rfl, rfl⟩
  have hbe : Ag.begin_ t := ⟨by omega, by omega⟩
  by_cases h0 : V = 0
  · have HN := Lib.hid (hn (.inl h0))
    subst h0
    clear hf hn hbe
    go_enter Tryd.func41, Tryd.ntmps41
    go_wp2_with fail
    refine (M1.out _).mono ?_
    rintro e w2 ⟨rfl, rfl⟩
    go_wp2
    go_ret
    exact ⟨by rw [HN.out]; rfl, rfl⟩
  have h0' : (V == 0) = false := by simpa using h0
  have HF := hf h0 hbe
  unfold Ag.begin_ at hbe
  unfold In64 at *
  have hr : t.tmod V = t % V := Int.tmod_eq_emod_of_nonneg hbe.1
  have h3 := Int.emod_nonneg t h0
  have h5 : t % V ≤ t := emod_le hbe.1 (by omega)
  obtain ⟨R, hR⟩ : ∃ R, t % V = R := ⟨_, rfl⟩
  rw [hR] at hr HF h3 h5
  have hs : IntKind.i64.wrap (t - R) = F := by rw [IntKind.wrap_i64]; omega
  have hrr : IntKind.i64.wrap R = R := by rw [IntKind.wrap_i64]; omega
  have hne : V ≠ -1 := by omega
  clear hf hn HF hR
  go_enter Tryd.func41, Tryd.ntmps41
  go_wp2_with fail
  refine (M1.out _).mono ?_
  rintro e w2 ⟨rfl, rfl⟩
  go_wp2_with fail
  refine (M1.out _).mono ?_
  rintro e w2 ⟨rfl, rfl⟩
  go_wp2
  go_ret
  exact ⟨rfl, rfl⟩

theorem radd_wrap (a b : Int) (ha : In64 a) (hb : In64 b) : ∃ S : Int, IntKind.i64.wrap (IntKind.u64.wrap (IntKind.u64.wrap a + IntKind.u64.wrap b)) = S ∧ (In64 (a + b) → S = a + b) ∧ (0 ≤ a → 0 ≤ b → (S < 0 ↔ ¬ In64 (a + b))) ∧ (a < 0 → b < 0 → (0 ≤ S ↔ ¬ In64 (a + b))) := by
  refine ⟨_, rfl, ?_⟩
  unfold In64 at *
  rw [IntKind.wrap_i64, IntKind.wrap_u64, IntKind.wrap_u64, IntKind.wrap_u64]
  omega

theorem radd_in (a b : Int) (w : World) (ha : In64 a) (hb : In64 b) (hs : In64 (a + b)) :
    Calls Tryd.prog 61 #[.int .i64 a, .int .i64 b] w fun e w' => e = .returned (.tuple #[.int .i64 (a + b), .bool true]) ∧ w = w' := by
  obtain ⟨S, hS, h1, h2, h3⟩ := radd_wrap a b ha hb
  rw [← h1 hs]
  obtain ⟨U, hU⟩ : ∃ U, IntKind.u64.wrap a = U := ⟨_, rfl⟩
  obtain ⟨V, hV⟩ : ∃ V, IntKind.u64.wrap b = V := ⟨_, rfl⟩
  rw [hU, hV] at hS
  obtain ⟨T, hT⟩ : ∃ T, IntKind.u64.wrap (U + V) = T := ⟨_, rfl⟩
  rw [hT] at hS
  unfold In64 at ha hb
  by_cases p : 0 ≤ a
  · by_cases q : 0 ≤ b
    · have r : ¬ S < 0 := fun h => (h2 p q).1 h hs
      have p' : ¬ a < 0 := by omega
      clear h1 h2 h3 hs
      go_enter Tryd.func61, Tryd.ntmps61
      go_wp2
      go_ret2
      exact ⟨rfl, rfl⟩
    · have p' : ¬ a < 0 := by omega
      clear h1 h2 h3 hs
      go_enter Tryd.func61, Tryd.ntmps61
      go_wp2
      go_ret2
      exact ⟨rfl, rfl⟩
  · have p' : a < 0 := by omega
    by_cases q : b < 0
    · have r : ¬ 0 ≤ S := fun h => (h3 p' q).1 h hs
      clear h1 h2 h3 hs
      go_enter Tryd.func61, Tryd.ntmps61
      go_wp2
      go_ret2
      exact ⟨rfl, rfl⟩
    · clear h1 h2 h3 hs
      go_enter Tryd.func61, Tryd.ntmps61
      go_wp2
      go_ret2
      exact ⟨rfl, rfl⟩
theorem radd_out (a b : Int) (w : World) (ha : In64 a) (hb : In64 b) (hs : ¬ In64 (a + b)) :
    Calls Tryd.prog 61 #[.int .i64 a, .int .i64 b] w fun e w' => e = .returned (.tuple #[.int .i64 0, .bool false]) ∧ w = w' := by
  obtain ⟨S, hS, h1, h2, h3⟩ := radd_wrap a b ha hb
  obtain ⟨U, hU⟩ : ∃ U, IntKind.u64.wrap a = U := ⟨_, rfl⟩
  obtain ⟨V, hV⟩ : ∃ V, IntKind.u64.wrap b = V := ⟨_, rfl⟩
  rw [hU, hV] at hS
  obtain ⟨T, hT⟩ : ∃ T, IntKind.u64.wrap (U + V) = T := ⟨_, rfl⟩
  rw [hT] at hS
  unfold In64 at ha hb
  by_cases p : 0 ≤ a
  · have q : 0 ≤ b := by unfold In64 at hs; omega
    have r : S < 0 := (h2 p q).2 hs
    clear h1 h2 h3 hs
    go_enter Tryd.func61, Tryd.ntmps61
    go_wp2
    go_ret2
    exact ⟨rfl, rfl⟩
  · have p' : a < 0 := by omega
    have q : b < 0 := by unfold In64 at hs; omega
    have r : 0 ≤ S := (h3 p' q).2 hs
    clear h1 h2 h3 hs
    go_enter Tryd.func61, Tryd.ntmps61
    go_wp2
    go_ret2
    exact ⟨rfl, rfl⟩

theorem rone_any (t v f : Int) (w : World) (hv : In64 v) (hf : In64 f) :
    Calls Tryd.prog 53 #[.agg #[.int .i64 t, .int .i64 v], .int .i64 f] w fun e w' => e = .returned (Ag.one v f).val ∧ Below w.heap.size w w' := by
  unfold In64 at *
  unfold Ag.one Ag.val
  go_enter Tryd.func53, Tryd.ntmps53
  go_wp2
  (try simp only [Exit.inBlock, Exit.then])
  refine bodyPost_ret (v := .agg #[.int .i64 f, .int .i64 1, .int .i64 v, .int .i64 v, .int .i64 v, .int .i64 v, .int .i64 v]) ?_ rfl ⟨rfl, ?_⟩
  · simp [results, Tryd.results53, go_sem]
  · exact ((Below.refl _ _).alloc (Nat.le_refl _) _).alloc (by simp) _

set_option maxRecDepth 100000 in
set_option maxHeartbeats 1000000 in
theorem rmay_any (a : Ag) (w : World) (ha : a.ok) : Calls Tryd.prog 51 #[a.val] w fun e w' => e = .returned (.bool (decide a.may)) ∧ Below w.heap.size w w' := by
  obtain ⟨fr, cn, sm, mn, mx, fi, la⟩ := a
  obtain ⟨B, hB⟩ : ∃ B, B = decide (Ag.may ⟨fr, cn, sm, mn, mx, fi, la⟩) := ⟨_, rfl⟩
  rw [← hB]
  unfold Ag.may Ag.begin_ Ag.count Ag.hold Ag.alike at hB
  simp only at hB
  unfold Ag.val
  have HB := Lib.hid hB
  clear hB ha
  by_cases h1 : cn < 1
  · have HN : Hid (B = false) := Lib.hid (by rw [HB.out]; exact decide_eq_false (by omega))
    go_enter Tryd.func51, Tryd.ntmps51
    go_wp2
    go_ret
    exact ⟨ret_bool HN.out.symm, (Below.refl _ _).alloc (Nat.le_refl _) _⟩
  by_cases h2 : 1099511627776 < cn
  · have HN : Hid (B = false) := Lib.hid (by rw [HB.out]; exact decide_eq_false (by omega))
    go_enter Tryd.func51, Tryd.ntmps51
    go_wp2
    go_ret
    exact ⟨ret_bool HN.out.symm, (Below.refl _ _).alloc (Nat.le_refl _) _⟩
  by_cases h3 : fr < 0
  · have HN : Hid (B = false) := Lib.hid (by rw [HB.out]; exact decide_eq_false (by omega))
    go_enter Tryd.func51, Tryd.ntmps51
    go_wp2
    go_ret
    exact ⟨ret_bool HN.out.symm, (Below.refl _ _).alloc (Nat.le_refl _) _⟩
  by_cases h4 : 1099511627776 < fr
  · have HN : Hid (B = false) := Lib.hid (by rw [HB.out]; exact decide_eq_false (by omega))
    go_enter Tryd.func51, Tryd.ntmps51
    go_wp2
    go_ret
    exact ⟨ret_bool HN.out.symm, (Below.refl _ _).alloc (Nat.le_refl _) _⟩
  by_cases h5 : fi < mn
  · have HN : Hid (B = false) := Lib.hid (by rw [HB.out]; exact decide_eq_false (by omega))
    go_enter Tryd.func51, Tryd.ntmps51
    go_wp2
    go_ret
    exact ⟨ret_bool HN.out.symm, (Below.refl _ _).alloc (Nat.le_refl _) _⟩
  by_cases h6 : la < mn
  · have HN : Hid (B = false) := Lib.hid (by rw [HB.out]; exact decide_eq_false (by omega))
    go_enter Tryd.func51, Tryd.ntmps51
    go_wp2
    go_ret
    exact ⟨ret_bool HN.out.symm, (Below.refl _ _).alloc (Nat.le_refl _) _⟩
  by_cases h7 : mx < mn
  · have HN : Hid (B = false) := Lib.hid (by rw [HB.out]; exact decide_eq_false (by omega))
    go_enter Tryd.func51, Tryd.ntmps51
    go_wp2
    go_ret
    exact ⟨ret_bool HN.out.symm, (Below.refl _ _).alloc (Nat.le_refl _) _⟩
  by_cases h8 : mx < fi
  · have HN : Hid (B = false) := Lib.hid (by rw [HB.out]; exact decide_eq_false (by omega))
    go_enter Tryd.func51, Tryd.ntmps51
    go_wp2
    go_ret
    exact ⟨ret_bool HN.out.symm, (Below.refl _ _).alloc (Nat.le_refl _) _⟩
  by_cases h9 : mx < la
  · have HN : Hid (B = false) := Lib.hid (by rw [HB.out]; exact decide_eq_false (by omega))
    go_enter Tryd.func51, Tryd.ntmps51
    go_wp2
    go_ret
    exact ⟨ret_bool HN.out.symm, (Below.refl _ _).alloc (Nat.le_refl _) _⟩
  by_cases h10 : 1 < cn
  · have HN : Hid (B = true) := Lib.hid (by rw [HB.out]; exact decide_eq_true (by omega))
    go_enter Tryd.func51, Tryd.ntmps51
    go_wp2
    go_ret
    exact ⟨ret_bool HN.out.symm, (Below.refl _ _).alloc (Nat.le_refl _) _⟩
  obtain ⟨b1, e1⟩ : ∃ b1, (sm == mn) = b1 := ⟨_, rfl⟩
  obtain ⟨b2, e2⟩ : ∃ b2, (mn == mx) = b2 := ⟨_, rfl⟩
  have HN : Hid (B = (b1 && b2)) := Lib.hid (by
    rw [HB.out, ← e1, ← e2, Bool.eq_iff_iff, Bool.and_eq_true, beq_iff_eq, beq_iff_eq]
    exact ⟨fun h => by have := of_decide_eq_true h; omega, fun h => decide_eq_true (by omega)⟩)
  cases b1
  · go_enter Tryd.func51, Tryd.ntmps51
    go_wp2
    go_ret
    exact ⟨ret_bool HN.out.symm, (Below.refl _ _).alloc (Nat.le_refl _) _⟩
  cases b2
  · go_enter Tryd.func51, Tryd.ntmps51
    go_wp2
    go_ret
    exact ⟨ret_bool HN.out.symm, (Below.refl _ _).alloc (Nat.le_refl _) _⟩
  go_enter Tryd.func51, Tryd.ntmps51
  go_wp2
  go_ret
  exact ⟨ret_bool HN.out.symm, (Below.refl _ _).alloc (Nat.le_refl _) _⟩
end Go.Proofs.YtfojciolhokejaaDoor
