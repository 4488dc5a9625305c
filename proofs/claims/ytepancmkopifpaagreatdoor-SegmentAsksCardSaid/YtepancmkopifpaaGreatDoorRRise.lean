/-
  The document's own answers that call few others: Width, Floor, Add, One, MayAgg: what each returns at every argument; nothing that was there is written.
  The document's own answer for Aligned: what it returns of every row of windows; nothing that was there is written.
  The document's own answer for Rising: what it returns of every row of samples; nothing that was there is written.
-/
import Derived.Test.YtepancmkopifpaaGreatDoorFoldKit
import Derived.Test.YtepancmkopifpaaGreatDoorTRow
namespace Go.Proofs.YtepancmkopifpaaGreatDoor
open Go.RowKit
set_option linter.unusedVariables false

theorem rwidth_any (k : Int) (w : World) (hk : In64 k) : Calls Tryz.prog 57 #[.int .i64 k] w fun e w' => e = .returned (.int .i64 (wid k)) ∧ w = w' := by
  by_cases h0 : k = 0
  · subst h0
    go_enter Tryz.func57, Tryz.ntmps57
    go_wp2
    go_ret
    exact ⟨rfl, rfl⟩
  by_cases h1 : k = 1
  · subst h1
    go_enter Tryz.func57, Tryz.ntmps57
    go_wp2
    go_ret
    exact ⟨rfl, rfl⟩
  by_cases h2 : k = 2
  · subst h2
    go_enter Tryz.func57, Tryz.ntmps57
    go_wp2
    go_ret
    exact ⟨rfl, rfl⟩
  by_cases h3 : k = 3
  · subst h3
    go_enter Tryz.func57, Tryz.ntmps57
    go_wp2
    go_ret
    exact ⟨rfl, rfl⟩
  have e : wid k = 0 := by unfold wid; rw [if_neg h0, if_neg h1, if_neg h2, if_neg h3]
  rw [e]
  have b0 : (k == 0) = false := by simpa using h0
  have b1 : (k == 1) = false := by simpa using h1
  have b2 : (k == 2) = false := by simpa using h2
  have b3 : (k == 3) = false := by simpa using h3
  clear h0 h1 h2 h3 e hk
  go_enter Tryz.func57, Tryz.ntmps57
  go_wp2
  go_ret
  exact ⟨rfl, rfl⟩

theorem rfloor_any (t k : Int) (w : World) (ht : In64 t) (hk : In64 k) : Calls Tryz.prog 45 #[.int .i64 t, .int .i64 k] w fun e w' => e = .returned (.int .i64 (flr t k)) ∧ w = w' := by
  have m1 := fun w => rwidth_any k w hk
  have M1 := Lib.hid m1
  have hb := wid_bounds k
  have hf := flr_some (t := t) (k := k)
  have hn := flr_none (t := t) (k := k)
  obtain ⟨F, hF⟩ : ∃ F, flr t k = F := ⟨_, rfl⟩
  obtain ⟨V, hV⟩ : ∃ V, wid k = V := ⟨_, rfl⟩
  rw [hF] at hf hn ⊢
  rw [hV] at hf hn hb M1
  clear hF hV m1
  by_cases h1 : t < 0
  · have HN := Lib.hid (hn (.inr (fun h => by unfold Ag.begin_ at h; omega)))
    clear hf hn
    go_enter Tryz.func45, Tryz.ntmps45
    go_wp2
    go_ret
    exact ⟨by rw [HN.out]; rfl, rfl⟩
  by_cases h2 : 1099511627776 < t
  · have HN := Lib.hid (hn (.inr (fun h => by unfold Ag.begin_ at h; omega)))
    clear hf hn
    go_enter Tryz.func45, Tryz.ntmps45
    go_wp2
    go_ret
    exact ⟨by rw [HN.out]; rfl, rfl⟩
  have hbe : Ag.begin_ t := ⟨by omega, by omega⟩
  by_cases h0 : V = 0
  · have HN := Lib.hid (hn (.inl h0))
    subst h0
    clear hf hn hbe
    go_enter Tryz.func45, Tryz.ntmps45
    go_wp2_with fail
    refine (M1.out _).mono ?_
    rintro e w2 ⟨rfl, rfl⟩
    go_wp2
    go_ret
    exact ⟨by rw [HN.out]; rfl, rfl⟩
  have h0' : (V == 0) = false := by simpa using h0
  have HF := hf h0 hbe
  unfold Ag.begin_ at hbe
  unfold In64 at *
  have hr : t.tmod V = t % V := Int.tmod_eq_emod_of_nonneg hbe.1
  have h3 := Int.emod_nonneg t h0
  have h5 : t % V ≤ t := emod_le hbe.1 (by omega)
  obtain ⟨R, hR⟩ : ∃ R, t % V = R := ⟨_, rfl⟩
  rw [hR] at hr HF h3 h5
  have hs : IntKind.i64.wrap (t - R) = F := by rw [IntKind.wrap_i64]; omega
  have hrr : IntKind.i64.wrap R = R := by rw [IntKind.wrap_i64]; omega
  have hne : V ≠ -1 := by omega
  clear hf hn HF hR
  go_enter Tryz.func45, Tryz.ntmps45
  go_wp2_with fail
  refine (M1.out _).mono ?_
  rintro e w2 ⟨rfl, rfl⟩
  go_wp2_with fail
  refine (M1.out _).mono ?_
  rintro e w2 ⟨rfl, rfl⟩
  go_wp2
  go_ret
  exact ⟨rfl, rfl⟩

theorem radd_wrap (a b : Int) (ha : In64 a) (hb : In64 b) : ∃ S : Int, IntKind.i64.wrap (IntKind.u64.wrap (IntKind.u64.wrap a + IntKind.u64.wrap b)) = S ∧ (In64 (a + b) → S = a + b) ∧ (0 ≤ a → 0 ≤ b → (S < 0 ↔ ¬ In64 (a + b))) ∧ (a < 0 → b < 0 → (0 ≤ S ↔ ¬ In64 (a + b))) := by
  refine ⟨_, rfl, ?_⟩
  unfold In64 at *
  rw [IntKind.wrap_i64, IntKind.wrap_u64, IntKind.wrap_u64, IntKind.wrap_u64]
  omega

theorem radd_in (a b : Int) (w : World) (ha : In64 a) (hb : In64 b) (hs : In64 (a + b)) :
    Calls Tryz.prog 72 #[.int .i64 a, .int .i64 b] w fun e w' => e = .returned (.tuple #[.int .i64 (a + b), .bool true]) ∧ w = w' := by
  obtain ⟨S, hS, h1, h2, h3⟩ := radd_wrap a b ha hb
  rw [← h1 hs]
  obtain ⟨U, hU⟩ : ∃ U, IntKind.u64.wrap a = U := ⟨_, rfl⟩
  obtain ⟨V, hV⟩ : ∃ V, IntKind.u64.wrap b = V := ⟨_, rfl⟩
  rw [hU, hV] at hS
  obtain ⟨T, hT⟩ : ∃ T, IntKind.u64.wrap (U + V) = T := ⟨_, rfl⟩
  rw [hT] at hS
  unfold In64 at ha hb
  by_cases p : 0 ≤ a
  · by_cases q : 0 ≤ b
    · have r : ¬ S < 0 := fun h => (h2 p q).1 h hs
      have p' : ¬ a < 0 := by omega
      clear h1 h2 h3 hs
      go_enter Tryz.func72, Tryz.ntmps72
      go_wp2
      go_ret2
      exact ⟨rfl, rfl⟩
    · have p' : ¬ a < 0 := by omega
      clear h1 h2 h3 hs
      go_enter Tryz.func72, Tryz.ntmps72
      go_wp2
      go_ret2
      exact ⟨rfl, rfl⟩
  · have p' : a < 0 := by omega
    by_cases q : b < 0
    · have r : ¬ 0 ≤ S := fun h => (h3 p' q).1 h hs
      clear h1 h2 h3 hs
      go_enter Tryz.func72, Tryz.ntmps72
      go_wp2
      go_ret2
      exact ⟨rfl, rfl⟩
    · clear h1 h2 h3 hs
      go_enter Tryz.func72, Tryz.ntmps72
      go_wp2
      go_ret2
      exact ⟨rfl, rfl⟩
theorem radd_out (a b : Int) (w : World) (ha : In64 a) (hb : In64 b) (hs : ¬ In64 (a + b)) :
    Calls Tryz.prog 72 #[.int .i64 a, .int .i64 b] w fun e w' => e = .returned (.tuple #[.int .i64 0, .bool false]) ∧ w = w' := by
  obtain ⟨S, hS, h1, h2, h3⟩ := radd_wrap a b ha hb
  obtain ⟨U, hU⟩ : ∃ U, IntKind.u64.wrap a = U := ⟨_, rfl⟩
  obtain ⟨V, hV⟩ : ∃ V, IntKind.u64.wrap b = V := ⟨_, rfl⟩
  rw [hU, hV] at hS
  obtain ⟨T, hT⟩ : ∃ T, IntKind.u64.wrap (U + V) = T := ⟨_, rfl⟩
  rw [hT] at hS
  unfold In64 at ha hb
  by_cases p : 0 ≤ a
  · have q : 0 ≤ b := by unfold In64 at hs; omega
    have r : S < 0 := (h2 p q).2 hs
    clear h1 h2 h3 hs
    go_enter Tryz.func72, Tryz.ntmps72
    go_wp2
    go_ret2
    exact ⟨rfl, rfl⟩
  · have p' : a < 0 := by omega
    have q : b < 0 := by unfold In64 at hs; omega
    have r : 0 ≤ S := (h3 p' q).2 hs
    clear h1 h2 h3 hs
    go_enter Tryz.func72, Tryz.ntmps72
    go_wp2
    go_ret2
    exact ⟨rfl, rfl⟩

theorem rone_any (t v f : Int) (w : World) (hv : In64 v) (hf : In64 f) :
    Calls Tryz.prog 94 #[.agg #[.int .i64 t, .int .i64 v], .int .i64 f] w fun e w' => e = .returned (Ag.one v f).val ∧ Below w.heap.size w w' := by
  unfold In64 at *
  unfold Ag.one Ag.val
  go_enter Tryz.func94, Tryz.ntmps94
  go_wp2
  (try simp only [Exit.inBlock, Exit.then])
  refine bodyPost_ret (v := .agg #[.int .i64 f, .int .i64 1, .int .i64 v, .int .i64 v, .int .i64 v, .int .i64 v, .int .i64 v]) ?_ rfl ⟨rfl, ?_⟩
  · simp [results, Tryz.results94, go_sem]
  · exact ((Below.refl _ _).alloc (Nat.le_refl _) _).alloc (by simp) _

set_option maxRecDepth 100000 in
set_option maxHeartbeats 1000000 in
theorem rmay_any (a : Ag) (w : World) (ha : a.ok) : Calls Tryz.prog 71 #[a.val] w fun e w' => e = .returned (.bool (decide a.may)) ∧ Below w.heap.size w w' := by
  obtain ⟨fr, cn, sm, mn, mx, fi, la⟩ := a
  obtain ⟨B, hB⟩ : ∃ B, B = decide (Ag.may ⟨fr, cn, sm, mn, mx, fi, la⟩) := ⟨_, rfl⟩
  rw [← hB]
  unfold Ag.may Ag.begin_ Ag.count Ag.hold Ag.alike at hB
  simp only at hB
  unfold Ag.val
  have HB := Lib.hid hB
  clear hB ha
  by_cases h1 : cn < 1
  · have HN : Hid (B = false) := Lib.hid (by rw [HB.out]; exact decide_eq_false (by omega))
    go_enter Tryz.func71, Tryz.ntmps71
    go_wp2
    go_ret
    exact ⟨ret_bool HN.out.symm, (Below.refl _ _).alloc (Nat.le_refl _) _⟩
  by_cases h2 : 1099511627776 < cn
  · have HN : Hid (B = false) := Lib.hid (by rw [HB.out]; exact decide_eq_false (by omega))
    go_enter Tryz.func71, Tryz.ntmps71
    go_wp2
    go_ret
    exact ⟨ret_bool HN.out.symm, (Below.refl _ _).alloc (Nat.le_refl _) _⟩
  by_cases h3 : fr < 0
  · have HN : Hid (B = false) := Lib.hid (by rw [HB.out]; exact decide_eq_false (by omega))
    go_enter Tryz.func71, Tryz.ntmps71
    go_wp2
    go_ret
    exact ⟨ret_bool HN.out.symm, (Below.refl _ _).alloc (Nat.le_refl _) _⟩
  by_cases h4 : 1099511627776 < fr
  · have HN : Hid (B = false) := Lib.hid (by rw [HB.out]; exact decide_eq_false (by omega))
    go_enter Tryz.func71, Tryz.ntmps71
    go_wp2
    go_ret
    exact ⟨ret_bool HN.out.symm, (Below.refl _ _).alloc (Nat.le_refl _) _⟩
  by_cases h5 : fi < mn
  · have HN : Hid (B = false) := Lib.hid (by rw [HB.out]; exact decide_eq_false (by omega))
    go_enter Tryz.func71, Tryz.ntmps71
    go_wp2
    go_ret
    exact ⟨ret_bool HN.out.symm, (Below.refl _ _).alloc (Nat.le_refl _) _⟩
  by_cases h6 : la < mn
  · have HN : Hid (B = false) := Lib.hid (by rw [HB.out]; exact decide_eq_false (by omega))
    go_enter Tryz.func71, Tryz.ntmps71
    go_wp2
    go_ret
    exact ⟨ret_bool HN.out.symm, (Below.refl _ _).alloc (Nat.le_refl _) _⟩
  by_cases h7 : mx < mn
  · have HN : Hid (B = false) := Lib.hid (by rw [HB.out]; exact decide_eq_false (by omega))
    go_enter Tryz.func71, Tryz.ntmps71
    go_wp2
    go_ret
    exact ⟨ret_bool HN.out.symm, (Below.refl _ _).alloc (Nat.le_refl _) _⟩
  by_cases h8 : mx < fi
  · have HN : Hid (B = false) := Lib.hid (by rw [HB.out]; exact decide_eq_false (by omega))
    go_enter Tryz.func71, Tryz.ntmps71
    go_wp2
    go_ret
    exact ⟨ret_bool HN.out.symm, (Below.refl _ _).alloc (Nat.le_refl _) _⟩
  by_cases h9 : mx < la
  · have HN : Hid (B = false) := Lib.hid (by rw [HB.out]; exact decide_eq_false (by omega))
    go_enter Tryz.func71, Tryz.ntmps71
    go_wp2
    go_ret
    exact ⟨ret_bool HN.out.symm, (Below.refl _ _).alloc (Nat.le_refl _) _⟩
  by_cases h10 : 1 < cn
  · have HN : Hid (B = true) := Lib.hid (by rw [HB.out]; exact decide_eq_true (by omega))
    go_enter Tryz.func71, Tryz.ntmps71
    go_wp2
    go_ret
    exact ⟨ret_bool HN.out.symm, (Below.refl _ _).alloc (Nat.le_refl _) _⟩
  obtain ⟨b1, e1⟩ : ∃ b1, (sm == mn) = b1 := ⟨_, rfl⟩
  obtain ⟨b2, e2⟩ : ∃ b2, (mn == mx) = b2 := ⟨_, rfl⟩
  have HN : Hid (B = (b1 && b2)) := Lib.hid (by
    rw [HB.out, ← e1, ← e2, Bool.eq_iff_iff, Bool.and_eq_true, beq_iff_eq, beq_iff_eq]
    exact ⟨fun h => by have := of_decide_eq_true h; omega, fun h => decide_eq_true (by omega)⟩)
  cases b1
  · go_enter Tryz.func71, Tryz.ntmps71
    go_wp2
    go_ret
    exact ⟨ret_bool HN.out.symm, (Below.refl _ _).alloc (Nat.le_refl _) _⟩
  cases b2
  · go_enter Tryz.func71, Tryz.ntmps71
    go_wp2
    go_ret
    exact ⟨ret_bool HN.out.symm, (Below.refl _ _).alloc (Nat.le_refl _) _⟩
  go_enter Tryz.func71, Tryz.ntmps71
  go_wp2
  go_ret
  exact ⟨ret_bool HN.out.symm, (Below.refl _ _).alloc (Nat.le_refl _) _⟩
end Go.Proofs.YtepancmkopifpaaGreatDoor
namespace Go.Proofs.YtepancmkopifpaaGreatDoor
open Go.RowKit
attribute [local go_sem ↓] Go.wp_at_zero Go.wp_at_succ
set_option linter.unusedVariables false

set_option maxRecDepth 100000 in
set_option maxHeartbeats 4000000 in
theorem raligned_in (b off n cap : Nat) (l : List Ag) (q : Int) (w : World) (hl : l.length = n) (h0 : 0 < n) (hb : ∀ a ∈ l, a.ok) (hc : n ≤ cap) (hm : cap ≤ maxLen) (hq : coarse q)
    (hcell : ∀ j, j < n → HoldsAt w b (off + j * 7) (agAt l j)) :
    Calls Tryz.prog 44 #[.slice (some ⟨b, off, none⟩) n cap, .int .i64 q] w fun e w' => e = .returned (.bool (decide (Align l q))) ∧ Below w.heap.size w w' := by
  unfold maxLen at hm
  obtain ⟨B, hB⟩ : ∃ B, B = decide (Align l q) := ⟨_, rfl⟩
  rw [← hB]
  have hq64 : In64 q := by unfold coarse at hq; unfold In64; omega
  have HB := Lib.hid hB
  have HL := Lib.hid hl
  have HI := Lib.hid hb
  have HCELL := Lib.hid hcell
  have HQ := Lib.hid hq
  have HQ64 := Lib.hid hq64
  have h0i : (0 : Int) < (n : Int) := by omega
  unfold coarse at hq
  obtain ⟨q1, q3⟩ := hq
  have q1' : ¬ q < 1 := by omega
  have q3' : ¬ 3 < q := by omega
  clear hB hl hb hcell hq64
  go_enter Tryz.func44, Tryz.ntmps44
  go_wp2
  go_loopw [5] (fun si wr => ∃ (k : Nat), k ≤ n ∧ si = .int .i64 (k : Int) ∧ Hid (∀ i, i < k → alAt l q i) ∧ Hid (Below w.heap.size w wr)) (fun si _ => n - (intOf si).toNat)
  case atStart => exact ⟨0, by omega, rfl, Lib.hid (fun i hi => absurd hi (by omega)), Lib.hid (Below.refl _ _)⟩
  case round =>
    obtain ⟨k, hk, rfl, HR, HW⟩ := hrel
    by_cases hlt : k < n
    · have hok := HI.out (agAt l k) (agg_mem (by rw [HL.out]; omega))
      have hat : alAt l q k ↔ (agAt l k).may ∧ (agAt l k).fr = flr (agAt l k).fr q ∧ (0 < k → (agAt l (k - 1)).fr < (agAt l k).fr) := Iff.rfl
      have hh := (HCELL.out k hlt).below HW.out
      generalize agAt l k = a at hok hat hh
      have m1 := fun w => rmay_any a w hok
      have m2 := fun w => rfloor_any a.fr q w hok.1 HQ64.out
      have hcap : (k : Int) < (n : Int) := by omega
      have hcap0 : (0 : Int) ≤ (k : Int) := by omega
      have HC9 : Hid (∀ i : Nat, i < n → wr.cell? ⟨b, off + i * 7, none⟩ = some (.int .i64 (agAt l i).fr)) := Lib.hid (fun i hi => ((HCELL.out i hi).below HW.out).1)
      have HH := Lib.hid hh
      unfold Ag.val at m1
      have D0 : ∀ u : SubB wr, u.w.cell? ⟨b, off + k * 7, none⟩ = some (.int .i64 a.fr) := fun u => (HH.out.below u.le).1
      have D1 : ∀ u : SubB wr, u.w.cell? ⟨b, off + k * 7 + 1, none⟩ = some (.int .i64 a.cn) := fun u => (HH.out.below u.le).2.1
      have D2 : ∀ u : SubB wr, u.w.cell? ⟨b, off + k * 7 + 2, none⟩ = some (.int .i64 a.sm) := fun u => (HH.out.below u.le).2.2.1
      have D3 : ∀ u : SubB wr, u.w.cell? ⟨b, off + k * 7 + 3, none⟩ = some (.int .i64 a.mn) := fun u => (HH.out.below u.le).2.2.2.1
      have D4 : ∀ u : SubB wr, u.w.cell? ⟨b, off + k * 7 + 4, none⟩ = some (.int .i64 a.mx) := fun u => (HH.out.below u.le).2.2.2.2.1
      have D5 : ∀ u : SubB wr, u.w.cell? ⟨b, off + k * 7 + 5, none⟩ = some (.int .i64 a.fi) := fun u => (HH.out.below u.le).2.2.2.2.2.1
      have D6 : ∀ u : SubB wr, u.w.cell? ⟨b, off + k * 7 + 6, none⟩ = some (.int .i64 a.la) := fun u => (HH.out.below u.le).2.2.2.2.2.2
      clear hh
      by_cases hma : a.may
      case neg =>
        rw [decide_eq_false hma] at m1
        have M1 := Lib.hid m1
        have M2 := Lib.hid m2
        have HN : Hid (B = false) := Lib.hid (by rw [HB.out]; exact decide_align_false (by rw [HL.out]; exact hlt) (fun h => hma (hat.1 h).1))
        clear m1 m2 hat hma hok
        go_upto_region 6 with fail
        refine wp_region_calm (by kernel_rfl) (by kernel_rfl) ?_
        repeat (go_big_quiet_step ((first | (go_at_call 71; exact calm_call (M1.out _)) | (go_at_call 45; exact calm_same (M2.out _)))))
        refine wpQuiet_nil ?_
        rintro _ ⟨u, rfl⟩
        clear D0 D1 D2 D3 D4 D5 D6
        go_wp2
        (try rw [Exit.noGoto_ret])
        go_ret
        exact ⟨by rw [HN.out]; rfl, past HW.out u.le⟩
      rw [decide_eq_true hma] at m1
      have M1 := Lib.hid m1
      clear m1
      by_cases hfl : a.fr = flr a.fr q
      case neg =>
        have HN : Hid (B = false) := Lib.hid (by rw [HB.out]; exact decide_align_false (by rw [HL.out]; exact hlt) (fun h => hfl (hat.1 h).2.1))
        have hne : (flr a.fr q != a.fr) = true := by simpa using fun e => hfl e.symm
        generalize flr a.fr q = F at m2 hne
        have M2 := Lib.hid m2
        clear m2 hat hma hok hfl
        go_upto_region 6 with fail
        refine wp_region_calm (by kernel_rfl) (by kernel_rfl) ?_
        repeat (go_big_quiet_step ((first | (go_at_call 71; exact calm_call (M1.out _)) | (go_at_call 45; exact calm_same (M2.out _)))))
        refine wpQuiet_nil ?_
        rintro _ ⟨u, rfl⟩
        clear D0 D1 D2 D3 D4 D5 D6
        go_wp2
        (try rw [Exit.noGoto_ret])
        go_ret
        exact ⟨by rw [HN.out]; rfl, past HW.out u.le⟩
      rw [← hfl] at m2
      have M2 := Lib.hid m2
      clear m2
      by_cases hk0 : 0 < k
      · have c2 := HC9.out (k - 1) (by omega)
        generalize hs0 : (agAt l (k - 1)).fr = t0 at c2 hat
        have C2 : ∀ u : SubB wr, u.w.cell? ⟨b, off + (k - 1) * 7, none⟩ = some (.int .i64 t0) := fun u => by
          rw [u.le.cell (World.block_lt_of_cell? wr _ c2)]; exact c2
        have i1 : (0 : Int) < (k : Int) := by omega
        have i2 : (1 : Int) ≤ (k : Int) := by omega
        have i3 : (0 : Int) ≤ (k : Int) - 1 := by omega
        have i4 : (k : Int) - 1 < (n : Int) := by omega
        have i5 : ((k : Int) - 1).toNat = k - 1 := by omega
        have i6 : IntKind.i64.wrap ((k : Int) - 1) = (k : Int) - 1 := by rw [IntKind.wrap_i64]; omega
        by_cases hle : a.fr ≤ t0
        · have HN : Hid (B = false) := Lib.hid (by rw [HB.out]; exact decide_align_false (by rw [HL.out]; exact hlt) (fun h => absurd ((hat.1 h).2.2 hk0) (by omega)))
          clear hat hma hok hfl hs0 c2
          go_upto_region 6 with fail
          refine wp_region_calm (by kernel_rfl) (by kernel_rfl) ?_
          repeat (go_big_quiet_step ((first | (go_at_call 71; exact calm_call (M1.out _)) | (go_at_call 45; exact calm_same (M2.out _)))))
          refine wpQuiet_nil ?_
          rintro _ ⟨u, rfl⟩
          clear C2
          clear D0 D1 D2 D3 D4 D5 D6
          go_wp2
          (try rw [Exit.noGoto_ret])
          go_ret
          exact ⟨by rw [HN.out]; rfl, past HW.out u.le⟩
        · have HN : Hid (∀ i, i < k + 1 → alAt l q i) := Lib.hid (al_upto_succ HR.out (hat.2 ⟨hma, hfl, fun _ => by omega⟩))
          have hle' : decide (a.fr ≤ t0) = false := decide_eq_false hle
          clear hat hma hok hfl hs0 c2 hle
          go_upto_region 6 with fail
          refine wp_region_calm (by kernel_rfl) (by kernel_rfl) ?_
          repeat (go_big_quiet_step ((first | (go_at_call 71; exact calm_call (M1.out _)) | (go_at_call 45; exact calm_same (M2.out _)))))
          refine wpQuiet_nil ?_
          rintro _ ⟨u, rfl⟩
          clear C2
          clear D0 D1 D2 D3 D4 D5 D6
          go_wp2
          go_roundw
          case rel => exact ⟨k + 1, by omega, by go_num, HN, Lib.hid (past HW.out u.le)⟩
          case measure => simp [intOf]; omega
      · have HN : Hid (∀ i, i < k + 1 → alAt l q i) := Lib.hid (al_upto_succ HR.out (hat.2 ⟨hma, hfl, fun h => absurd h hk0⟩))
        obtain rfl : k = 0 := by omega
        clear hat hma hok hfl hk0
        simp only [Int.ofNat_zero, Nat.zero_mul, Nat.add_zero] at *
        go_upto_region 6 with fail
        refine wp_region_calm (by kernel_rfl) (by kernel_rfl) ?_
        repeat (go_big_quiet_step ((first | (go_at_call 71; exact calm_call (M1.out _)) | (go_at_call 45; exact calm_same (M2.out _)))))
        refine wpQuiet_nil ?_
        rintro _ ⟨u, rfl⟩
        clear D0 D1 D2 D3 D4 D5 D6
        go_wp2
        go_roundw
        case rel => exact ⟨0 + 1, by omega, by go_num, HN, Lib.hid (past HW.out u.le)⟩
        case measure => simp [intOf]; omega
    · have HN : Hid (B = true) := Lib.hid (by rw [HB.out]; exact decide_eq_true ⟨HQ.out, fun i hi => HR.out i (by rw [HL.out] at hi; omega)⟩)
      go_wp2
      (try rw [Exit.noGoto_ret])
      go_ret
      exact ⟨by rw [HN.out]; rfl, HW.out⟩

set_option maxRecDepth 100000 in
theorem raligned_none (A : Option Addr) (cap : Nat) (q : Int) (w : World) (hq : coarse q) : Calls Tryz.prog 44 #[.slice A 0 cap, .int .i64 q] w fun e w' => e = .returned (.bool true) ∧ Below w.heap.size w w' := by
  unfold coarse at hq
  obtain ⟨q1, q3⟩ := hq
  have q1' : ¬ q < 1 := by omega
  have q3' : ¬ 3 < q := by omega
  go_enter Tryz.func44, Tryz.ntmps44
  go_wp2
  refine wp_loop_rounds 1 ?_
  rw [rounds_succ]
  go_wp2
  (try rw [Exit.noGoto_ret])
  go_ret
  exact ⟨rfl, Below.refl _ _⟩
set_option maxRecDepth 100000 in
theorem raligned_not (A : Option Addr) (len cap : Nat) (q : Int) (w : World) (hq : ¬ coarse q) : Calls Tryz.prog 44 #[.slice A len cap, .int .i64 q] w fun e w' => e = .returned (.bool false) ∧ Below w.heap.size w w' := by
  unfold coarse at hq
  by_cases h1 : q < 1
  · go_enter Tryz.func44, Tryz.ntmps44
    go_wp2
    go_ret
    exact ⟨rfl, Below.refl _ _⟩
  · have h3 : 3 < q := by omega
    go_enter Tryz.func44, Tryz.ntmps44
    go_wp2
    go_ret
    exact ⟨rfl, Below.refl _ _⟩

theorem raligned_any {A : Option Addr} {len cap : Nat} {l : List Ag} {w : World} (q : Int) (hl : l.length = len) (hS : Aggs w A l) (hc : len ≤ cap) (hm : cap ≤ maxLen) :
    Calls Tryz.prog 44 #[.slice A len cap, .int .i64 q] w fun e w' => e = .returned (.bool (decide (Align l q))) ∧ Below w.heap.size w w' := by
  by_cases hco : coarse q
  · by_cases h0 : 0 < len
    · obtain ⟨b, off, rfl, hcell⟩ := hS.2 (by omega)
      rw [hl] at hcell
      exact raligned_in b off len cap l q w hl h0 hS.1 hc hm hco hcell
    · obtain rfl : len = 0 := by omega
      rw [decide_eq_true (show Align l q from ⟨hco, fun i hi => absurd hi (by omega)⟩)]
      exact raligned_none A cap q w hco
  · rw [decide_eq_false (show ¬ Align l q from fun h => hco h.1)]
    exact raligned_not A len cap q w hco
end Go.Proofs.YtepancmkopifpaaGreatDoor
namespace Go.Proofs.YtepancmkopifpaaGreatDoor
open Go.RowKit
attribute [local go_sem ↓] Go.wp_at_zero Go.wp_at_succ
set_option linter.unusedVariables false

set_option maxRecDepth 100000 in
set_option maxHeartbeats 1000000 in
theorem rrising_in (b off n cap : Nat) (l : List (Int × Int)) (w : World) (hl : l.length = n) (h0 : 0 < n) (hb : In2 l) (hc : n ≤ cap) (hm : cap ≤ maxLen)
    (hcell : ∀ j, j < n → w.cell? ⟨b, off + j * 2, none⟩ = some (.int .i64 (l.getD j (0, 0)).1) ∧ w.cell? ⟨b, off + j * 2 + 1, none⟩ = some (.int .i64 (l.getD j (0, 0)).2)) :
    Calls Tryz.prog 43 #[.slice (some ⟨b, off, none⟩) n cap] w fun e w' => e = .returned (.bool (decide (Rise l))) ∧ Below w.heap.size w w' := by
  unfold maxLen at hm
  obtain ⟨B, hB⟩ : ∃ B, B = decide (Rise l) := ⟨_, rfl⟩
  rw [← hB]
  have HB := Lib.hid hB
  have HL := Lib.hid hl
  have HI := Lib.hid hb
  have HCELL := Lib.hid hcell
  have h0i : (0 : Int) < (n : Int) := by omega
  clear hB hl hb hcell
  go_enter Tryz.func43, Tryz.ntmps43
  go_wp2
  go_loopw [3] (fun si wr => ∃ (k : Nat), k ≤ n ∧ si = .int .i64 (k : Int) ∧ Hid (∀ i, i < k → riseAt l i) ∧ Hid (Below w.heap.size w wr)) (fun si _ => n - (intOf si).toNat)
  case atStart => exact ⟨0, by omega, rfl, Lib.hid (fun i hi => absurd hi (by omega)), Lib.hid (Below.refl _ _)⟩
  case round =>
    obtain ⟨k, hk, rfl, HR, HW⟩ := hrel
    by_cases hlt : k < n
    · obtain ⟨c0, _⟩ := HCELL.out k hlt
      rw [← HW.out.cell (World.block_lt_of_cell? w _ c0)] at c0
      have hbk := (HI.out (l.getD k (0, 0)) (sample_mem (by rw [HL.out]; omega))).1
      have hat : riseAt l k ↔ Ag.begin_ (l.getD k (0, 0)).1 ∧ (0 < k → (l.getD (k - 1) (0, 0)).1 < (l.getD k (0, 0)).1) := Iff.rfl
      generalize (l.getD k (0, 0)).1 = t1 at c0 hbk hat
      have hcap : (k : Int) < (n : Int) := by omega
      have hcap0 : (0 : Int) ≤ (k : Int) := by omega
      unfold In64 at hbk
      by_cases ht0 : t1 < 0
      · have HN : Hid (B = false) := Lib.hid (by rw [HB.out]; exact decide_rise_false (by rw [HL.out]; exact hlt) (fun h => by have := (hat.1 h).1.1; omega))
        clear hat
        go_upto_region 4 with fail
        go_quiet (fail)
        clear c0
        go_wp2
        (try rw [Exit.noGoto_ret])
        go_ret
        exact ⟨by rw [HN.out]; rfl, past HW.out (belowN _ _)⟩
      have t0' : decide (t1 < 0) = false := decide_eq_false ht0
      by_cases htm : 1099511627776 < t1
      · have HN : Hid (B = false) := Lib.hid (by rw [HB.out]; exact decide_rise_false (by rw [HL.out]; exact hlt) (fun h => by have := (hat.1 h).1.2; omega))
        clear hat ht0
        go_upto_region 4 with fail
        go_quiet (fail)
        clear c0
        go_wp2
        (try rw [Exit.noGoto_ret])
        go_ret
        exact ⟨by rw [HN.out]; rfl, past HW.out (belowN _ _)⟩
      have tm' : decide (1099511627776 < t1) = false := decide_eq_false htm
      have hbe : Ag.begin_ t1 := ⟨by omega, by omega⟩
      by_cases hk0 : 0 < k
      · obtain ⟨c2, _⟩ := HCELL.out (k - 1) (by omega)
        rw [← HW.out.cell (World.block_lt_of_cell? w _ c2)] at c2
        generalize hs0 : (l.getD (k - 1) (0, 0)).1 = t0 at c2 hat
        have i1 : (0 : Int) < (k : Int) := by omega
        have i2 : (1 : Int) ≤ (k : Int) := by omega
        have i3 : (0 : Int) ≤ (k : Int) - 1 := by omega
        have i4 : (k : Int) - 1 < (n : Int) := by omega
        have i5 : ((k : Int) - 1).toNat = k - 1 := by omega
        have i6 : IntKind.i64.wrap ((k : Int) - 1) = (k : Int) - 1 := by rw [IntKind.wrap_i64]; omega
        by_cases hle : t1 ≤ t0
        · have HN : Hid (B = false) := Lib.hid (by rw [HB.out]; exact decide_rise_false (by rw [HL.out]; exact hlt) (fun h => absurd ((hat.1 h).2 hk0) (by omega)))
          clear hat hbe hs0 ht0 htm
          go_upto_region 4 with fail
          go_quiet (fail)
          clear c2
          clear c0
          go_wp2
          (try rw [Exit.noGoto_ret])
          go_ret
          exact ⟨by rw [HN.out]; rfl, past HW.out (belowN _ _)⟩
        · have HN : Hid (∀ i, i < k + 1 → riseAt l i) := Lib.hid (rise_upto_succ HR.out (hat.2 ⟨hbe, fun _ => by omega⟩))
          have hle' : decide (t1 ≤ t0) = false := decide_eq_false hle
          clear hat hbe hs0 hle ht0 htm
          go_upto_region 4 with fail
          go_quiet (fail)
          clear c2
          clear c0
          go_wp2
          go_roundw
          case rel => exact ⟨k + 1, by omega, by go_num, HN, Lib.hid (past HW.out (belowN _ _))⟩
          case measure => simp [intOf]; omega
      · have HN : Hid (∀ i, i < k + 1 → riseAt l i) := Lib.hid (rise_upto_succ HR.out (hat.2 ⟨hbe, fun h => absurd h hk0⟩))
        obtain rfl : k = 0 := by omega
        clear hat hbe hk0 ht0 htm
        simp only [Int.ofNat_zero, Nat.zero_mul, Nat.add_zero] at *
        go_upto_region 4 with fail
        go_quiet (fail)
        clear c0
        go_wp2
        go_roundw
        case rel => exact ⟨0 + 1, by omega, by go_num, HN, Lib.hid (past HW.out (belowN _ _))⟩
        case measure => simp [intOf]; omega
    · have HN : Hid (B = true) := Lib.hid (by rw [HB.out]; exact decide_eq_true (fun i hi => HR.out i (by rw [HL.out] at hi; omega)))
      go_wp2
      (try rw [Exit.noGoto_ret])
      go_ret
      exact ⟨by rw [HN.out]; rfl, HW.out⟩

set_option maxRecDepth 100000 in
theorem rrising_none (A : Option Addr) (cap : Nat) (w : World) : Calls Tryz.prog 43 #[.slice A 0 cap] w fun e w' => e = .returned (.bool true) ∧ Below w.heap.size w w' := by
  go_enter Tryz.func43, Tryz.ntmps43
  go_wp2
  refine wp_loop_rounds 1 ?_
  rw [rounds_succ]
  go_wp2
  (try rw [Exit.noGoto_ret])
  go_ret
  exact ⟨rfl, Below.refl _ _⟩

theorem rrising_any {A : Option Addr} {len cap : Nat} {l : List (Int × Int)} {w : World} (hl : l.length = len) (hS : Samps w A l) (hc : len ≤ cap) (hm : cap ≤ maxLen) :
    Calls Tryz.prog 43 #[.slice A len cap] w fun e w' => e = .returned (.bool (decide (Rise l))) ∧ Below w.heap.size w w' := by
  by_cases h0 : 0 < len
  · obtain ⟨b, off, rfl, hcell⟩ := hS.2 (by omega)
    rw [hl] at hcell
    exact rrising_in b off len cap l w hl h0 hS.1 hc hm hcell
  · obtain rfl : len = 0 := by omega
    rw [decide_eq_true (show Rise l from fun i hi => absurd hi (by omega))]
    exact rrising_none A cap w
end Go.Proofs.YtepancmkopifpaaGreatDoor
