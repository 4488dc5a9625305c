/-
  The document's own answer for Aligned: what it returns of every row of windows; nothing that was there is written.
-/
import Derived.Test.YtfojciolhokejaaDoorTAlign
import Derived.Test.YtfojciolhokejaaDoorRLeaf
namespace Go.Proofs.YtfojciolhokejaaDoor
open Go.RowKit
attribute [local go_sem ↓] Go.wp_at_zero Go.wp_at_succ
set_option linter.unusedVariables false

set_option maxRecDepth 100000 in
set_option maxHeartbeats 4000000 in
theorem raligned_in (b off n cap : Nat) (l : List Ag) (q : Int) (w : World) (hl : l.length = n) (h0 : 0 < n) (hb : ∀ a ∈ l, a.ok) (hc : n ≤ cap) (hm : cap ≤ maxLen) (hq : coarse q)
    (hcell : ∀ j, j < n → HoldsAt w b (off + j * 7) (agAt l j)) :
    Calls Tryd.prog 36 #[.slice (some ⟨b, off, none⟩) n cap, .int .i64 q] w fun e w' => e = .returned (.bool (decide (Align l q))) ∧ Below w.heap.size w w' := by
  unfold maxLen at hm
  obtain ⟨B, hB⟩ : ∃ B, B = decide (Align l q) := ⟨_, rfl⟩
  rw [← hB]
  have hq64 : In64 q := by unfold coarse at hq; unfold In64; omega
  have HB := Lib.hid hB
  have HL := Lib.hid hl
  have HI := Lib.hid hb
  have HCELL := Lib.hid hcell
  have HQ := Lib.hid hq
  have HQ64 := Lib.hid hq64
  have h0i : (0 : Int) < (n : Int) := by omega
  unfold coarse at hq
  obtain ⟨q1, q3⟩ := hq
  have q1' : ¬ q < 1 := by omega
  have q3' : ¬ 3 < q := by omega
  clear hB hl hb hcell hq64
  go_enter Tryd.func36, Tryd.ntmps36
  go_wp2
  go_loopw [5] (fun si wr => ∃ (k : Nat), k ≤ n ∧ si = .int .i64 (k : Int) ∧ Hid (∀ i, i < k → alAt l q i) ∧ Hid (Below w.heap.size w wr)) (fun si _ => n - (intOf si).toNat)
  case atStart => exact ⟨0, by omega, rfl, Lib.hid (fun i hi => absurd hi (by omega)), Lib.hid (Below.refl _ _)⟩
  case round =>
    obtain ⟨k, hk, rfl, HR, HW⟩ := hrel
    by_cases hlt : k < n
    · have hok := HI.out (agAt l k) (agg_mem (by rw [HL.out]; omega))
      have hat : alAt l q k ↔ (agAt l k).may ∧ (agAt l k).fr = flr (agAt l k).fr q ∧ (0 < k → (agAt l (k - 1)).fr < (agAt l k).fr) := Iff.rfl
      have hh := (HCELL.out k hlt).below HW.out
      generalize agAt l k = a at hok hat hh
      have m1 := fun w => rmay_any a w hok
      have m2 := fun w => rfloor_any a.fr q w hok.1 HQ64.out
      have hcap : (k : Int) < (n : Int) := by omega
      have hcap0 : (0 : Int) ≤ (k : Int) := by omega
      have HC9 : Hid (∀ i : Nat, i < n → wr.cell? ⟨b, off + i * 7, none⟩ = some (.int .i64 (agAt l i).fr)) := Lib.hid (fun i hi => ((HCELL.out i hi).below HW.out).1)
      have HH := Lib.hid hh
      unfold Ag.val at m1
      have D0 : ∀ u : SubB wr, u.w.cell? ⟨b, off + k * 7, none⟩ = some (.int .i64 a.fr) := fun u => (HH.out.below u.le).1
      have D1 : ∀ u : SubB wr, u.w.cell? ⟨b, off + k * 7 + 1, none⟩ = some (.int .i64 a.cn) := fun u => (HH.out.below u.le).2.1
      have D2 : ∀ u : SubB wr, u.w.cell? ⟨b, off + k * 7 + 2, none⟩ = some (.int .i64 a.sm) := fun u => (HH.out.below u.le).2.2.1
      have D3 : ∀ u : SubB wr, u.w.cell? ⟨b, off + k * 7 + 3, none⟩ = some (.int .i64 a.mn) := fun u => (HH.out.below u.le).2.2.2.1
      have D4 : ∀ u : SubB wr, u.w.cell? ⟨b, off + k * 7 + 4, none⟩ = some (.int .i64 a.mx) := fun u => (HH.out.below u.le).2.2.2.2.1
      have D5 : ∀ u : SubB wr, u.w.cell? ⟨b, off + k * 7 + 5, none⟩ = some (.int .i64 a.fi) := fun u => (HH.out.below u.le).2.2.2.2.2.1
      have D6 : ∀ u : SubB wr, u.w.cell? ⟨b, off + k * 7 + 6, none⟩ = some (.int .i64 a.la) := fun u => (HH.out.below u.le).2.2.2.2.2.2
      clear hh
      by_cases hma : a.may
      case neg =>
        rw [decide_eq_false hma] at m1
        have M1 := Lib.hid m1
        have M2 := Lib.hid m2
        have HN : Hid (B = false) := Lib.hid (by rw [HB.out]; exact decide_align_false (by rw [HL.out]; exact hlt) (fun h => hma (hat.1 h).1))
        clear m1 m2 hat hma hok
        go_upto_region 6 with fail
        refine wp_region_calm (by kernel_rfl) (by kernel_rfl) ?_
        repeat (go_big_quiet_step ((first | (go_at_call 51; exact calm_call (M1.out _)) | (go_at_call 41; exact calm_same (M2.out _)))))
        refine wpQuiet_nil ?_
        rintro _ ⟨u, rfl⟩
        clear D0 D1 D2 D3 D4 D5 D6
        go_wp2
        (try rw [Exit.noGoto_ret])
        go_ret
        exact ⟨by rw [HN.out]; rfl, past HW.out u.le⟩
      rw [decide_eq_true hma] at m1
      have M1 := Lib.hid m1
      clear m1
      by_cases hfl : a.fr = flr a.fr q
      case neg =>
        have HN : Hid (B = false) := Lib.hid (by rw [HB.out]; exact decide_align_false (by rw [HL.out]; exact hlt) (fun h => hfl (hat.1 h).2.1))
        have hne : (flr a.fr q != a.fr) = true := by simpa using fun e => hfl e.symm
        generalize flr a.fr q = F at m2 hne
        have M2 := Lib.hid m2
        clear m2 hat hma hok hfl
        go_upto_region 6 with fail
        refine wp_region_calm (by kernel_rfl) (by kernel_rfl) ?_
        repeat (go_big_quiet_step ((first | (go_at_call 51; exact calm_call (M1.out _)) | (go_at_call 41; exact calm_same (M2.out _)))))
        refine wpQuiet_nil ?_
        rintro _ ⟨u, rfl⟩
        clear D0 D1 D2 D3 D4 D5 D6
        go_wp2
        (try rw [Exit.noGoto_ret])
        go_ret
        exact ⟨by rw [HN.out]; rfl, past HW.out u.le⟩
      rw [← hfl] at m2
      have M2 := Lib.hid m2
      clear m2
      by_cases hk0 : 0 < k
      · have c2 := HC9.out (k - 1) (by omega)
        generalize hs0 : (agAt l (k - 1)).fr = t0 at c2 hat
        have C2 : ∀ u : SubB wr, u.w.cell? ⟨b, off + (k - 1) * 7, none⟩ = some (.int .i64 t0) := fun u => by
          rw [u.le.cell (World.block_lt_of_cell? wr _ c2)]; exact c2
        have i1 : (0 : Int) < (k : Int) := by omega
        have i2 : (1 : Int) ≤ (k : Int) := by omega
        have i3 : (0 : Int) ≤ (k : Int) - 1 := by omega
        have i4 : (k : Int) - 1 < (n : Int) := by omega
        have i5 : ((k : Int) - 1).toNat = k - 1 := by omega
        have i6 : IntKind.i64.wrap ((k : Int) - 1) = (k : Int) - 1 := by rw [IntKind.wrap_i64]; omega
        by_cases hle : a.fr ≤ t0
        · have HN : Hid (B = false) := Lib.hid (by rw [HB.out]; exact decide_align_false (by rw [HL.out]; exact hlt) (fun h => absurd ((hat.1 h).2.2 hk0) (by omega)))
          clear hat hma hok hfl hs0 c2
          go_upto_region 6 with fail
          refine wp_region_calm (by kernel_rfl) (by kernel_rfl) ?_
          repeat (go_big_quiet_step ((first | (go_at_call 51; exact calm_call (M1.out _)) | (go_at_call 41; exact calm_same (M2.out _)))))
          refine wpQuiet_nil ?_
          rintro _ ⟨u, rfl⟩
          clear C2
          clear D0 D1 D2 D3 D4 D5 D6
          go_wp2
          (try rw [Exit.noGoto_ret])
          go_ret
          exact ⟨by rw [HN.out]; rfl, past HW.out u.le⟩
        · have HN : Hid (∀ i, i < k + 1 → alAt l q i) := Lib.hid (al_upto_succ HR.out (hat.2 ⟨hma, hfl, fun _ => by omega⟩))
          have hle' : decide (a.fr ≤ t0) = false := decide_eq_false hle
          clear hat hma hok hfl hs0 c2 hle
          go_upto_region 6 with fail
          refine wp_region_calm (by kernel_rfl) (by kernel_rfl) ?_
          repeat (go_big_quiet_step ((first | (go_at_call 51; exact calm_call (M1.out _)) | (go_at_call 41; exact calm_same (M2.out _)))))
          refine wpQuiet_nil ?_
          rintro _ ⟨u, rfl⟩
          clear C2
          clear D0 D1 D2 D3 D4 D5 D6
          go_wp2
          go_roundw
          case rel => exact ⟨k + 1, by omega, by go_num, HN, Lib.hid (past HW.out u.le)⟩
          case measure => simp [intOf]; omega
      · have HN : Hid (∀ i, i < k + 1 → alAt l q i) := Lib.hid (al_upto_succ HR.out (hat.2 ⟨hma, hfl, fun h => absurd h hk0⟩))
        obtain rfl : k = 0 := by omega
        clear hat hma hok hfl hk0
        simp only [Int.ofNat_zero, Nat.zero_mul, Nat.add_zero] at *
        go_upto_region 6 with fail
        refine wp_region_calm (by kernel_rfl) (by kernel_rfl) ?_
        repeat (go_big_quiet_step ((first | (go_at_call 51; exact calm_call (M1.out _)) | (go_at_call 41; exact calm_same (M2.out _)))))
        refine wpQuiet_nil ?_
        rintro _ ⟨u, rfl⟩
        clear D0 D1 D2 D3 D4 D5 D6
        go_wp2
        go_roundw
        case rel => exact ⟨0 + 1, by omega, by go_num, HN, Lib.hid (past HW.out u.le)⟩
        case measure => simp [intOf]; omega
    · have HN : Hid (B = true) := Lib.hid (by rw [HB.out]; exact decide_eq_true ⟨HQ.out, fun i hi => HR.out i (by rw [HL.out] at hi; omega)⟩)
      go_wp2
      (try rw [Exit.noGoto_ret])
      go_ret
      exact ⟨by rw [HN.out]; rfl, HW.out⟩

set_option maxRecDepth 100000 in
theorem raligned_none (A : Option Addr) (cap : Nat) (q : Int) (w : World) (hq : coarse q) : Calls Tryd.prog 36 #[.slice A 0 cap, .int .i64 q] w fun e w' => e = .returned (.bool true) ∧ Below w.heap.size w w' := by
  unfold coarse at hq
  obtain ⟨q1, q3⟩ := hq
  have q1' : ¬ q < 1 := by omega
  have q3' : ¬ 3 < q := by omega
  go_enter Tryd.func36, Tryd.ntmps36
  go_wp2
  refine wp_loop_rounds 1 ?_
  rw [rounds_succ]
  go_wp2
  (try rw [Exit.noGoto_ret])
  go_ret
  exact ⟨rfl, Below.refl _ _⟩
set_option maxRecDepth 100000 in
theorem raligned_not (A : Option Addr) (len cap : Nat) (q : Int) (w : World) (hq : ¬ coarse q) : Calls Tryd.prog 36 #[.slice A len cap, .int .i64 q] w fun e w' => e = .returned (.bool false) ∧ Below w.heap.size w w' := by
  unfold coarse at hq
  by_cases h1 : q < 1
  · go_enter Tryd.func36, Tryd.ntmps36
    go_wp2
    go_ret
    exact ⟨rfl, Below.refl _ _⟩
  · have h3 : 3 < q := by omega
    go_enter Tryd.func36, Tryd.ntmps36
    go_wp2
    go_ret
    exact ⟨rfl, Below.refl _ _⟩

theorem raligned_any {A : Option Addr} {len cap : Nat} {l : List Ag} {w : World} (q : Int) (hl : l.length = len) (hS : Aggs w A l) (hc : len ≤ cap) (hm : cap ≤ maxLen) :
    Calls Tryd.prog 36 #[.slice A len cap, .int .i64 q] w fun e w' => e = .returned (.bool (decide (Align l q))) ∧ Below w.heap.size w w' := by
  by_cases hco : coarse q
  · by_cases h0 : 0 < len
    · obtain ⟨b, off, rfl, hcell⟩ := hS.2 (by omega)
      rw [hl] at hcell
      exact raligned_in b off len cap l q w hl h0 hS.1 hc hm hco hcell
    · obtain rfl : len = 0 := by omega
      rw [decide_eq_true (show Align l q from ⟨hco, fun i hi => absurd hi (by omega)⟩)]
      exact raligned_none A cap q w hco
  · rw [decide_eq_false (show ¬ Align l q from fun h => hco h.1)]
    exact raligned_not A len cap q w hco
end Go.Proofs.YtfojciolhokejaaDoor
