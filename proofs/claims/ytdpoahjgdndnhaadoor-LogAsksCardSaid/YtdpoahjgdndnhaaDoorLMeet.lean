/-
  log.Meet, Front: of any two rows; nothing that was there is written.
-/
import Derived.Test.YtdpoahjgdndnhaaDoorLMath
import Derived.Test.YtdpoahjgdndnhaaDoorEEqE
import Derived.Test.YtdpoahjgdndnhaaDoorCalm
import Derived.Deep.Light
set_option maxRecDepth 100000
namespace Go.Proofs.YtdpoahjgdndnhaaDoor
open Go.RowKit
attribute [local go_sem ↓] Go.wp_at_zero Go.wp_at_succ
set_option linter.unusedVariables false

theorem ent_at {w : World} {A : Option Addr} {n ca : Nat} {l : List Ent} (h : EntRow w A n ca l) {k : Nat} (hk : k < n) {e : Ent} (he : l.getD k Ent.zero = e) : ∃ b off, A = some ⟨b, off, none⟩ ∧
    (∀ u : SubB w, u.w.cell? ⟨b, off + k * 8, none⟩ = some (.int .i64 e.kd)) ∧ (∀ u : SubB w, u.w.cell? ⟨b, off + k * 8 + 1, none⟩ = some (.int .i64 e.vw)) ∧ (∀ u : SubB w, u.w.cell? ⟨b, off + k * 8 + 2, none⟩ = some (.int .i64 e.id)) ∧ (∀ u : SubB w, u.w.cell? ⟨b, off + k * 8 + 3, none⟩ = some (.int .i64 e.tr)) ∧
    (∀ u : SubB w, u.w.cell? ⟨b, off + k * 8 + 4, none⟩ = some (.int .i64 e.fr)) ∧ (∀ u : SubB w, u.w.cell? ⟨b, off + k * 8 + 5, none⟩ = some (.int .i64 e.tl)) ∧ (∀ u : SubB w, u.w.cell? ⟨b, off + k * 8 + 6, none⟩ = some (.int .u32 e.sm)) ∧ (∀ u : SubB w, u.w.cell? ⟨b, off + k * 8 + 7, none⟩ = some (.string ⟨e.tx.toArray⟩)) := by
  obtain ⟨b, off, rfl, hlt, hc⟩ := h.cells (by omega)
  obtain ⟨c0, c1, c2, c3, c4, c5, c6, c7⟩ := hc k hk
  rw [he] at c0 c1 c2 c3 c4 c5 c6 c7
  exact ⟨b, off, rfl, fun u => by rw [u.le.cell hlt]; exact c0, fun u => by rw [u.le.cell hlt]; exact c1, fun u => by rw [u.le.cell hlt]; exact c2, fun u => by rw [u.le.cell hlt]; exact c3, fun u => by rw [u.le.cell hlt]; exact c4, fun u => by rw [u.le.cell hlt]; exact c5, fun u => by rw [u.le.cell hlt]; exact c6, fun u => by rw [u.le.cell hlt]; exact c7⟩
set_option maxHeartbeats 4000000 in
theorem meet_any {A B : Option Addr} {n m ca cb : Nat} {l l2 : List Ent} {w : World} (h1 : EntRow w A n ca l) (h2 : EntRow w B m cb l2) :
    Calls Tryd.prog 36 #[.slice A n ca, .slice B m cb] w fun e w' => e = .returned (.int .i64 (meet l l2 : Int)) ∧ Below w.heap.size w w' := by
  obtain ⟨R, hR⟩ : ∃ R, R = meet l l2 := ⟨_, rfl⟩
  rw [← hR]
  have HR := Lib.hid hR
  have HL := Lib.hid h1.len
  have HL2 := Lib.hid h2.len
  have hm1 := h1.max
  have hm2 := h2.max
  have hc1 := h1.le
  have hc2 := h2.le
  unfold maxLen at hm1 hm2
  have H1 : Hid (∀ u, Below w.heap.size w u → EntRow u A n ca l) := Lib.hid (fun u hu => h1.below hu)
  have H2 : Hid (∀ u, Below w.heap.size w u → EntRow u B m cb l2) := Lib.hid (fun u hu => h2.below hu)
  clear h1 h2 hR
  go_enter Tryd.func36, Tryd.ntmps36
  go_wp2
  go_loopw [5] (fun si wr => ∃ (k : Nat), k ≤ n ∧ k ≤ m ∧ si = .int .i64 (k : Int) ∧ Hid (∀ j, j < k → l.getD j Ent.zero = l2.getD j Ent.zero) ∧ Hid (Below w.heap.size w wr)) (fun si _ => n - (intOf si).toNat)
  case atStart => exact ⟨0, by omega, by omega, rfl, Lib.hid (fun j hj => absurd hj (by omega)), Lib.hid (Below.refl _ _)⟩
  case round =>
    obtain ⟨k, hk, hk2, rfl, HE, HW⟩ := hrel
    by_cases hlt : k < n
    case neg =>
      obtain rfl : k = n := by omega
      have hRk : R = k := by rw [HR.out]; exact meet_is (by rw [HL.out]; omega) (by rw [HL2.out]; omega) HE.out (fun h => by rw [HL.out] at h; omega)
      subst hRk
      go_upto_region 2 with fail
      have HBR : Hid (∀ u : SubB wr, Below w.heap.size w u.w) := Lib.hid (fun u => past HW.out u.le)
      refine wp_region_calm (by kernel_rfl) (by kernel_rfl) ?_
      (try simp only [List.append])
      repeat (go_big_quiet_step (fail))
      refine wpQuiet_nil ?_
      rintro _ ⟨u, rfl⟩
      go_wp2
      (try rw [Exit.noGoto_ret])
      go_ret
      exact ⟨rfl, HBR.out u⟩
    by_cases hlt2 : k < m
    case neg =>
      obtain rfl : k = m := by omega
      have hRk : R = k := by rw [HR.out]; exact meet_is (by rw [HL.out]; omega) (by rw [HL2.out]; omega) HE.out (fun _ h => by rw [HL2.out] at h; omega)
      subst hRk
      go_upto_region 2 with fail
      have HBR : Hid (∀ u : SubB wr, Below w.heap.size w u.w) := Lib.hid (fun u => past HW.out u.le)
      refine wp_region_calm (by kernel_rfl) (by kernel_rfl) ?_
      (try simp only [List.append])
      repeat (go_big_quiet_step (fail))
      refine wpQuiet_nil ?_
      rintro _ ⟨u, rfl⟩
      go_wp2
      (try rw [Exit.noGoto_ret])
      go_ret
      exact ⟨rfl, HBR.out u⟩
    obtain ⟨a, ha⟩ : ∃ a, l.getD k Ent.zero = a := ⟨_, rfl⟩
    obtain ⟨d, hd⟩ : ∃ d, l2.getD k Ent.zero = d := ⟨_, rfl⟩
    obtain ⟨b, off, rfl, c0, c1, c2, c3, c4, c5, c6, c7⟩ := ent_at (H1.out wr HW.out) hlt ha
    obtain ⟨b2, off2, rfl, e0, e1, e2, e3, e4, e5, e6, e7⟩ := ent_at (H2.out wr HW.out) hlt2 hd
    have HA := Lib.hid ha
    have HD := Lib.hid hd
    have i0 : (0 : Int) ≤ (k : Int) := by omega
    have i1 : (k : Int) < (n : Int) := by omega
    have i2 : (k : Int) < (m : Int) := by omega
    clear ha hd
    have HS : Hid (∀ u : SubB wr, Calls Tryd.prog 24 #[.agg #[.int .i64 a.kd, .int .i64 a.vw, .int .i64 a.id, .int .i64 a.tr, .int .i64 a.fr, .int .i64 a.tl, .int .u32 a.sm, .string ⟨a.tx.toArray⟩], .agg #[.int .i64 d.kd, .int .i64 d.vw, .int .i64 d.id, .int .i64 d.tr, .int .i64 d.fr, .int .i64 d.tl, .int .u32 d.sm, .string ⟨d.tx.toArray⟩]] u.w fun e w' => e = .returned (.bool (decide (a = d))) ∧ Below u.w.heap.size u.w w') := Lib.hid (fun u => same_any a d u.w)
    have HBR : Hid (∀ u : SubB wr, Below w.heap.size w u.w) := Lib.hid (fun u => past HW.out u.le)
    by_cases had : a = d
    · rw [decide_eq_true had] at HS
      have HE2 : Hid (∀ j, j < k + 1 → l.getD j Ent.zero = l2.getD j Ent.zero) := Lib.hid (fun j hj => by
        rcases Nat.lt_or_ge j k with h | h
        · exact HE.out j h
        · obtain rfl : j = k := by omega
          rw [HA.out, HD.out, had])
      clear had
      go_upto_region 2 with fail
      refine wp_region_calm (by kernel_rfl) (by kernel_rfl) ?_
      (try simp only [List.append])
      repeat (go_big_quiet_step ((go_at_call 24; exact calm_call (HS.out _))))
      refine wpQuiet_nil ?_
      rintro _ ⟨u, rfl⟩
      have HW2 := Lib.hid (HBR.out u)
      clear c0 c1 c2 c3 c4 c5 c6 c7 e0 e1 e2 e3 e4 e5 e6 e7 HS HBR
      generalize u.w = wz at *
      go_wp2
      go_roundw
      case rel => exact ⟨k + 1, by omega, by omega, by go_num, HE2, HW2⟩
      case measure => simp [intOf]; omega
    · rw [decide_eq_false had] at HS
      have hRk : R = k := by
        rw [HR.out]
        exact meet_is (by rw [HL.out]; omega) (by rw [HL2.out]; omega) HE.out (fun _ _ => by rw [HA.out, HD.out]; exact had)
      subst hRk
      clear had
      go_upto_region 2 with fail
      refine wp_region_calm (by kernel_rfl) (by kernel_rfl) ?_
      (try simp only [List.append])
      repeat (go_big_quiet_step ((go_at_call 24; exact calm_call (HS.out _))))
      refine wpQuiet_nil ?_
      rintro _ ⟨u, rfl⟩
      clear c0 c1 c2 c3 c4 c5 c6 c7 e0 e1 e2 e3 e4 e5 e6 e7 HS
      go_wp2
      (try rw [Exit.noGoto_ret])
      go_ret
      exact ⟨rfl, HBR.out u⟩
set_option maxHeartbeats 1000000 in
theorem front_any {A B : Option Addr} {n m ca cb : Nat} {l l2 : List Ent} {w : World} (h1 : EntRow w A n ca l) (h2 : EntRow w B m cb l2) :
    Calls Tryd.prog 34 #[.slice A n ca, .slice B m cb] w fun e w' => e = .returned (.bool (decide (meet l l2 = n))) ∧ Below w.heap.size w w' := by
  have M := Lib.hid (meet_any h1 h2)
  clear h1 h2
  generalize meet l l2 = R at *
  by_cases h : R = n
  · rw [decide_eq_true h]
    subst h
    go_enter Tryd.func34, Tryd.ntmps34
    go_wp2_with fail
    refine M.out.mono ?_
    rintro en w2 ⟨rfl, hb⟩
    have HB := Lib.hid hb
    clear hb M
    go_wp2
    go_ret
    exact ⟨rfl, HB.out⟩
  · rw [decide_eq_false h]
    have i1 : ((R : Int) == (n : Int)) = false := by simp; omega
    have i2 : ¬ (R : Int) = (n : Int) := by omega
    clear h
    go_enter Tryd.func34, Tryd.ntmps34
    go_wp2_with fail
    refine M.out.mono ?_
    rintro en w2 ⟨rfl, hb⟩
    have HB := Lib.hid hb
    clear hb M
    go_wp2
    go_ret
    exact ⟨rfl, HB.out⟩
end Go.Proofs.YtdpoahjgdndnhaaDoor
