/-
  May: whether an entry may be, of every entry; nothing that was there is written.
-/
import Derived.Test.YtdpoahjgdndnhaaDoorELeaf
import Derived.Deep.DeepCutAuto
set_option maxRecDepth 100000
namespace Go.Proofs.YtdpoahjgdndnhaaDoor
open Go.RowKit
attribute [local go_sem ↓] Go.wp_at_zero Go.wp_at_succ
set_option linter.unusedVariables false

/-- An entry's box reads so in every later world. -/
structure EBox (w : World) (g : Nat) (e : Ent) : Prop where
  c0 : ∀ u : SubB w, u.w.cell? ⟨g, 0, none⟩ = some (.int .i64 e.kd)
  c1 : ∀ u : SubB w, u.w.cell? ⟨g, 1, none⟩ = some (.int .i64 e.vw)
  c2 : ∀ u : SubB w, u.w.cell? ⟨g, 2, none⟩ = some (.int .i64 e.id)
  c3 : ∀ u : SubB w, u.w.cell? ⟨g, 3, none⟩ = some (.int .i64 e.tr)
  c4 : ∀ u : SubB w, u.w.cell? ⟨g, 4, none⟩ = some (.int .i64 e.fr)
  c5 : ∀ u : SubB w, u.w.cell? ⟨g, 5, none⟩ = some (.int .i64 e.tl)
  c6 : ∀ u : SubB w, u.w.cell? ⟨g, 6, none⟩ = some (.int .u32 e.sm)
  c7 : ∀ u : SubB w, u.w.cell? ⟨g, 7, none⟩ = some (.string ⟨e.tx.toArray⟩)
theorem EBox.new (w : World) (e : Ent) : EBox (w.alloc (.cells #[.int .i64 e.kd, .int .i64 e.vw, .int .i64 e.id, .int .i64 e.tr, .int .i64 e.fr, .int .i64 e.tl, .int .u32 e.sm, .string ⟨e.tx.toArray⟩] 25)) w.heap.size e := by
  have hl : w.heap.size < (w.alloc (.cells #[.int .i64 e.kd, .int .i64 e.vw, .int .i64 e.id, .int .i64 e.tr, .int .i64 e.fr, .int .i64 e.tl, .int .u32 e.sm, .string ⟨e.tx.toArray⟩] 25)).heap.size := by simp
  exact ⟨fun u => by rw [u.le.cell hl]; simp, fun u => by rw [u.le.cell hl]; simp, fun u => by rw [u.le.cell hl]; simp, fun u => by rw [u.le.cell hl]; simp, fun u => by rw [u.le.cell hl]; simp, fun u => by rw [u.le.cell hl]; simp, fun u => by rw [u.le.cell hl]; simp, fun u => by rw [u.le.cell hl]; simp⟩

theorem may_not {e : Ent} (h : e.vw < 0 ∨ e.vw > 1073741824 ∨ decide (e ≠ e.own) = true) : decide e.may = false := by
  refine decide_eq_false (fun hm => ?_)
  obtain ⟨h1, h2, _⟩ := hm
  rcases h with h | h | h
  · omega
  · omega
  · exact (of_decide_eq_true h) h2
theorem may_says {e : Ent} (h1 : ¬ e.vw < 0) (h2 : ¬ e.vw > 1073741824) (h3 : decide (e ≠ e.own) = false) : decide e.may = decide e.says := by
  rw [decide_eq_decide]
  exact ⟨fun h => h.2.2, fun h => ⟨⟨by omega, by omega⟩, Decidable.not_not.1 (of_decide_eq_false h3), h⟩⟩

set_option maxHeartbeats 4000000 in
theorem may_ent (e : Ent) (w : World) (he : e.ok) (hw : Nam w) (hn : 0 < w.heap.size) :
    Calls Tryd.prog 22 #[e.val] w fun en w' => en = .returned (.bool (decide e.may)) ∧ Below w.heap.size w w' := by
  obtain ⟨R, hR⟩ : ∃ R, R = decide e.may := ⟨_, rfl⟩
  rw [← hR]
  have HB := Lib.hid (EBox.new w e)
  have hb : Below w.heap.size w (w.alloc (.cells #[.int .i64 e.kd, .int .i64 e.vw, .int .i64 e.id, .int .i64 e.tr, .int .i64 e.fr, .int .i64 e.tl, .int .u32 e.sm, .string ⟨e.tx.toArray⟩] 25)) := past_alloc (Below.refl _ _) _
  have HU : Hid (∀ u, Below (w.alloc (.cells #[.int .i64 e.kd, .int .i64 e.vw, .int .i64 e.id, .int .i64 e.tr, .int .i64 e.fr, .int .i64 e.tl, .int .u32 e.sm, .string ⟨e.tx.toArray⟩] 25)).heap.size (w.alloc (.cells #[.int .i64 e.kd, .int .i64 e.vw, .int .i64 e.id, .int .i64 e.tr, .int .i64 e.fr, .int .i64 e.tl, .int .u32 e.sm, .string ⟨e.tx.toArray⟩] 25)) u → Below w.heap.size w u ∧ Nam u ∧ 0 < u.heap.size) := Lib.hid (fun u hu => ⟨past hb hu, hw.below hn (past hb hu), Nat.lt_of_lt_of_le hn (past hb hu).size⟩)
  have HOK := Lib.hid he
  have M1 := Lib.hid (fun w => ownParts_any e w)
  have hN := fun w => ent_neq e e.own w
  have HRV : Hid (e.vw < 0 ∨ e.vw > 1073741824 ∨ decide (e ≠ e.own) = true → R = false) := Lib.hid (fun h => hR.trans (may_not h))
  have HRS : Hid (¬ e.vw < 0 → ¬ e.vw > 1073741824 → decide (e ≠ e.own) = false → R = decide e.says) := Lib.hid (fun h1 h2 h3 => hR.trans (may_says h1 h2 h3))
  generalize decide (e ≠ e.own) = B at *
  clear hR he hw hb
  unfold Ent.val str at M1 hN ⊢
  unfold Ent.says at HRS
  generalize Ent.own e = ow at *
  obtain ⟨kd, vw, id, tr, fr, tl, sm, tx⟩ := e
  obtain ⟨o0, o1, o2, o3, o4, o5, o6, o7⟩ := ow
  simp only at *
  generalize (⟨o7.toArray⟩ : ByteArray) = S7 at *
  go_enter Tryd.func22, Tryd.ntmps22
  go_upto_region 1 with fail
  generalize (w.alloc (.cells #[.int .i64 kd, .int .i64 vw, .int .i64 id, .int .i64 tr, .int .i64 fr, .int .i64 tl, .int .u32 sm, .string ⟨tx.toArray⟩] 25)) = w1 at *
  obtain ⟨c0, c1, c2, c3, c4, c5, c6, c7⟩ := HB.out
  simp only at c0 c1 c2 c3 c4 c5 c6 c7
  by_cases v0 : vw < 0
  · have HV : Hid (R = false) := Lib.hid (HRV.out (.inl v0))
    clear HRS HRV HB
    refine wp_region_calm (by kernel_rfl) (by kernel_rfl) ?_
    (try simp only [List.append])
    repeat (go_big_quiet_step ((go_at_call 56; exact calm_call (M1.out _))))
    refine wpQuiet_nil ?_
    rintro _ ⟨u, rfl⟩
    go_wp2
    (try rw [Exit.noGoto_ret])
    go_ret
    exact ⟨by rw [HV.out]; rfl, (HU.out _ u.le).1⟩
  by_cases v1 : vw > 1073741824
  · have HV : Hid (R = false) := Lib.hid (HRV.out (.inr (.inl v1)))
    clear HRS HRV HB
    refine wp_region_calm (by kernel_rfl) (by kernel_rfl) ?_
    (try simp only [List.append])
    repeat (go_big_quiet_step ((go_at_call 56; exact calm_call (M1.out _))))
    refine wpQuiet_nil ?_
    rintro _ ⟨u, rfl⟩
    go_wp2
    (try rw [Exit.noGoto_ret])
    go_ret
    exact ⟨by rw [HV.out]; rfl, (HU.out _ u.le).1⟩
  cases B
  case true =>
    have HV : Hid (R = false) := Lib.hid (HRV.out (.inr (.inr rfl)))
    clear HRS HRV HB
    refine wp_region_calm (by kernel_rfl) (by kernel_rfl) ?_
    (try simp only [List.append])
    repeat (go_big_quiet_step ((go_at_call 56; exact calm_call (M1.out _))))
    refine wpQuiet_nil ?_
    rintro _ ⟨u, rfl⟩
    go_wp2
    (try rw [Exit.noGoto_ret])
    go_ret
    exact ⟨by rw [HV.out]; rfl, (HU.out _ u.le).1⟩
  case false =>
    have HR2 := Lib.hid (HRS.out v0 v1 rfl)
    clear HRS HRV HB
    refine wp_region_calm (by kernel_rfl) (by kernel_rfl) ?_
    (try simp only [List.append])
    repeat (go_big_quiet_step ((go_at_call 56; exact calm_call (M1.out _))))
    refine wpQuiet_nil ?_
    rintro _ ⟨u, rfl⟩
    have d0 := c0 u
    have d1 := c1 u
    have d2 := c2 u
    have d3 := c3 u
    have d4 := c4 u
    have d5 := c5 u
    have d7 := c7 u
    clear c0 c1 c2 c3 c4 c5 c6 c7 hN M1
    obtain ⟨hb, hw, hn⟩ := HU.out _ u.le
    have HBL := Lib.hid hb
    have HW := Lib.hid hw
    have HN := Lib.hid hn
    clear HU hb hw hn
    generalize u.w = w2 at *
    clear u
    have M2 := Lib.hid (fun w => mayId_any id w)
    by_cases k1 : kd = 1
    · have HF : Hid (R = decide (idOk id ∧ (0 ≤ tr ∧ tr < 4) ∧ 0 ≤ fr ∧ fr < tl ∧ tl ≤ 1099511627776)) := Lib.hid (by rw [HR2.out, decide_eq_decide, if_pos k1])
      clear HR2
      subst k1
      generalize hI : decide (idOk id) = I at M2
      have HI := Lib.hid hI
      clear hI
      go_wp2_with fail
      refine (M2.out _).mono ?_
      rintro e w3 ⟨rfl, rfl⟩
      clear M2
      cases I
      case false =>
        have HV : Hid (R = false) := Lib.hid (by rw [HF.out]; exact decide_eq_false (fun h => of_decide_eq_false HI.out h.1))
        go_wp2
        (try rw [Exit.noGoto_ret])
        go_ret
        exact ⟨by rw [HV.out]; rfl, HBL.out⟩
      have HI2 : Hid (idOk id) := Lib.hid (of_decide_eq_true HI.out)
      clear HI
      by_cases q1 : tr ≥ 0
      case neg =>
        have HV : Hid (R = false) := Lib.hid (by rw [HF.out]; exact decide_eq_false (fun h => by have := h.2; omega))
        clear HF
        go_wp2
        (try rw [Exit.noGoto_ret])
        go_ret
        exact ⟨by rw [HV.out]; rfl, HBL.out⟩
      by_cases q2 : tr < 4
      case neg =>
        have HV : Hid (R = false) := Lib.hid (by rw [HF.out]; exact decide_eq_false (fun h => by have := h.2; omega))
        clear HF
        go_wp2
        (try rw [Exit.noGoto_ret])
        go_ret
        exact ⟨by rw [HV.out]; rfl, HBL.out⟩
      by_cases q3 : fr ≥ 0
      case neg =>
        have HV : Hid (R = false) := Lib.hid (by rw [HF.out]; exact decide_eq_false (fun h => by have := h.2; omega))
        clear HF
        go_wp2
        (try rw [Exit.noGoto_ret])
        go_ret
        exact ⟨by rw [HV.out]; rfl, HBL.out⟩
      by_cases q4 : fr < tl
      case neg =>
        have HV : Hid (R = false) := Lib.hid (by rw [HF.out]; exact decide_eq_false (fun h => by have := h.2; omega))
        clear HF
        go_wp2
        (try rw [Exit.noGoto_ret])
        go_ret
        exact ⟨by rw [HV.out]; rfl, HBL.out⟩
      have HV : Hid (R = decide (tl ≤ 1099511627776)) := Lib.hid (by rw [HF.out, decide_eq_decide]; exact ⟨fun h => h.2.2.2.2, fun h => ⟨HI2.out, ⟨by omega, by omega⟩, by omega, by omega, h⟩⟩)
      clear HF
      go_wp2
      (try rw [Exit.noGoto_ret])
      go_ret
      exact ⟨by rw [HV.out]; rfl, HBL.out⟩
    by_cases k2 : kd = 2
    · have HF : Hid (R = decide (idOk id)) := Lib.hid (by rw [HR2.out, decide_eq_decide, if_neg k1, if_pos k2])
      clear HR2 k1
      subst k2
      rw [← HF.out] at M2
      go_wp2_with fail
      refine (M2.out _).mono ?_
      rintro e w3 ⟨rfl, rfl⟩
      go_wp2
      (try rw [Exit.noGoto_ret])
      go_ret
      exact ⟨rfl, HBL.out⟩
    by_cases k3 : kd = 3
    · have HF : Hid (R = decide (vw > 0)) := Lib.hid (by rw [HR2.out, decide_eq_decide, if_neg k1, if_neg k2, if_pos k3])
      clear HR2 k1 k2
      subst k3
      go_wp2
      (try rw [Exit.noGoto_ret])
      go_ret
      exact ⟨by rw [HF.out]; rfl, HBL.out⟩
    by_cases k4 : kd = 4
    · have HF : Hid (R = decide (textOk tx)) := Lib.hid (by rw [HR2.out, decide_eq_decide, if_neg k1, if_neg k2, if_neg k3, if_pos k4])
      have M3 := Lib.hid (mayText_any tx w2 HOK.out.2.2.2.2.2.2.2 HW.out HN.out)
      unfold str at M3
      rw [← HF.out] at M3
      clear HR2 k1 k2 k3
      subst k4
      go_wp2_with fail
      refine M3.out.mono ?_
      rintro e w3 ⟨rfl, hb3⟩
      have HB3 := Lib.hid (past HBL.out hb3)
      clear hb3
      go_wp2
      (try rw [Exit.noGoto_ret])
      go_ret
      exact ⟨rfl, HB3.out⟩
    · have HF : Hid (R = false) := Lib.hid (by rw [HR2.out]; exact decide_eq_false (by rw [if_neg k1, if_neg k2, if_neg k3, if_neg k4]; exact fun h => h))
      have e1 : (kd == 1) = false := by simpa using k1
      have e2 : (kd == 2) = false := by simpa using k2
      have e3 : (kd == 3) = false := by simpa using k3
      have e4 : (kd == 4) = false := by simpa using k4
      clear HR2 k1 k2 k3 k4
      go_wp2
      (try rw [Exit.noGoto_ret])
      go_ret
      exact ⟨by rw [HF.out]; rfl, HBL.out⟩
end Go.Proofs.YtdpoahjgdndnhaaDoor
