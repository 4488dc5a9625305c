/-
  DiskNames: the walk of the law.
-/
import Derived.Test.YtofjealjecfkiaaWalkDiskCuts
set_option maxRecDepth 100000
namespace Go.Proofs.Ytofjealjecfkiaa.diskNames
open Go.RowKit
attribute [local go_sem ↓] Go.wp_at_zero Go.wp_at_succ
set_option linter.unusedVariables false

set_option maxHeartbeats 4000000 in
theorem walk (a0 : Option Addr) (len0 cap0 : Nat) (z0 : List Int) (a1 : Option Addr) (len1 cap1 : Nat) (z1 : List Int) (a2 : Option Addr) (len2 cap2 : Nat) (z2 : List Int) (w : World) (w0 : IsRow .u8 w a0 len0 cap0 z0) (w1 : IsRow .u8 w a1 len1 cap1 z1) (w2 : IsRow .u8 w a2 len2 cap2 z2) :
    Calls Try.prog 6 #[.slice a0 len0 cap0, .slice a1 len1 cap1, .slice a2 len2 cap2] w fun e w' => e = .returned (.bool true) ∧ Below w.heap.size w w' := by
  obtain ⟨ba, hba⟩ := brow_of_row w0
  obtain ⟨bb, hbb⟩ := brow_of_row w1
  obtain ⟨bc, hbc⟩ := brow_of_row w2
  have M1 : Hid (Calls Try.prog 7 #[.int .i64 1000] w fun e w' => ∃ p, e = .returned (.pointer (some ⟨p, 0, none⟩)) ∧ At w w' p 1000 none 0 []) := at_new 1000 w (by decide)
  have MT : Hid (∀ v, Calls Try.prog 8 #[] v fun e w' => e = .returned (.bool true) ∧ Below v.heap.size v w') := told_any
  have HA := Lib.hid hba
  have HB := Lib.hid hbb
  have HC := Lib.hid hbc
  have hm0 := hba.max
  have hm1 := hbb.max
  have hm2 := hbc.max
  have hl0 := hba.le
  have hl1 := hbb.le
  have hl2 := hbc.le
  unfold maxLen at hm0 hm1 hm2
  clear w0 w1 w2 hba hbb hbc
  by_cases hbig0 : 30 < len0
  · have hbig' : (30 : Int) < (len0 : Int) := by omega
    go_enter Try.func6, Try.ntmps6
    go_wp2_with fail
    refine M1.out.mono ?_
    rintro e w1 ⟨p, rfl, h1⟩
    have H1 := Lib.hid h1
    clear h1
    go_wp2_with fail
    refine (MT.out _).mono ?_
    rintro e w2 ⟨rfl, hb⟩
    have HB2 := Lib.hid hb
    clear hb
    go_wp2
    go_ret
    exact ⟨rfl, past H1.out.below HB2.out⟩
  have hs0 : ¬ (30 : Int) < (len0 : Int) := by omega
  by_cases hbig1 : 30 < len1
  · have hbig' : (30 : Int) < (len1 : Int) := by omega
    go_enter Try.func6, Try.ntmps6
    go_wp2_with fail
    refine M1.out.mono ?_
    rintro e w1 ⟨p, rfl, h1⟩
    have H1 := Lib.hid h1
    clear h1
    go_wp2_with fail
    refine (MT.out _).mono ?_
    rintro e w2 ⟨rfl, hb⟩
    have HB2 := Lib.hid hb
    clear hb
    go_wp2
    go_ret
    exact ⟨rfl, past H1.out.below HB2.out⟩
  have hs1 : ¬ (30 : Int) < (len1 : Int) := by omega
  by_cases hbig2 : 30 < len2
  · have hbig' : (30 : Int) < (len2 : Int) := by omega
    go_enter Try.func6, Try.ntmps6
    go_wp2_with fail
    refine M1.out.mono ?_
    rintro e w1 ⟨p, rfl, h1⟩
    have H1 := Lib.hid h1
    clear h1
    go_wp2_with fail
    refine (MT.out _).mono ?_
    rintro e w2 ⟨rfl, hb⟩
    have HB2 := Lib.hid hb
    clear hb
    go_wp2
    go_ret
    exact ⟨rfl, past H1.out.below HB2.out⟩
  have hs2 : ¬ (30 : Int) < (len2 : Int) := by omega
  go_enter Try.func6, Try.ntmps6
  go_wp2_with fail
  refine M1.out.mono ?_
  rintro e w1 ⟨p, rfl, h1⟩
  have H1 := Lib.hid h1
  clear h1 M1
  have M2 : Hid (Calls Try.prog 9 #[.pointer (some ⟨p, 0, none⟩), .string ⟨#[120]⟩, .slice a0 len0 cap0] w1 fun e w' => e = .returned (.int .i64 0) ∧ ∃ R rc A c, At w w' p 1000 R rc [⟨[120], A, c, ba, 0⟩]) := Lib.hid (by
    refine (append_new [120] H1.out.disk rfl (by decide) (by decide) (H1.out.brow HA.out) (H1.out.browk HA.out) (by show 0 + len0 ≤ 1000; omega) H1.out.below.size).mono ?_
    rintro e w' ⟨rfl, R', rc', A', c', hm⟩
    exact ⟨rfl, R', rc', A', c', H1.out.moved hm⟩)
  go_wp2_with fail
  refine M2.out.mono ?_
  rintro e w2 ⟨rfl, R2, rc2, A2, c2, h2⟩
  have H2 := Lib.hid h2
  clear h2 M2 H1
  have M3 : Hid (Calls Try.prog 10 #[.pointer (some ⟨p, 0, none⟩), .string ⟨#[120]⟩] w2 fun e w' => e = .returned (.int .i64 0) ∧ At w w' p 1000 R2 rc2 [⟨[120], A2, c2, ba, len0⟩]) := Lib.hid
    ((sync_there [120] (k := 0) (f := ⟨[120], A2, c2, ba, 0⟩) H2.out.disk rfl rfl).mono fun e w' ⟨he, hs⟩ => ⟨he, by
      have := H2.out.step hs
      rw [show ([⟨[120], A2, c2, ba, 0⟩] : List Fl).set 0 { (⟨[120], A2, c2, ba, 0⟩ : Fl) with sure := (⟨[120], A2, c2, ba, 0⟩ : Fl).b.length } = [⟨[120], A2, c2, ba, len0⟩] from by rw [← HA.out.len]; rfl] at this
      exact this⟩)
  go_wp2_with fail
  refine M3.out.mono ?_
  rintro e w3 ⟨rfl, h3⟩
  have H3 := Lib.hid h3
  clear h3 M3 H2
  have M4 : Hid (Calls Try.prog 9 #[.pointer (some ⟨p, 0, none⟩), .string ⟨#[120]⟩, .slice a1 len1 cap1] w3 fun e w' => e = .returned (.int .i64 0) ∧ ∃ A c, At w w' p 1000 R2 rc2 [⟨[120], A, c, ba ++ bb, len0⟩]) := Lib.hid (by
    refine (append_there [120] (k := 0) (f := ⟨[120], A2, c2, ba, len0⟩) H3.out.disk rfl rfl (H3.out.brow HB.out) (by show (ba.length + 0) + len1 ≤ 1000; rw [HA.out.len]; omega) H3.out.below.size).mono ?_
    rintro e w' ⟨rfl, A', c', hm⟩
    exact ⟨rfl, A', c', H3.out.moved hm⟩)
  go_wp2_with fail
  refine M4.out.mono ?_
  rintro e w4 ⟨rfl, A4, c4, h4⟩
  have H4 := Lib.hid h4
  clear h4 M4 H3
  have hL : Hid ((ba ++ bb).length = len0 + len1) := Lib.hid (by rw [List.length_append, HA.out.len, HB.out.len])
  have M5 : Hid (Calls Try.prog 9 #[.pointer (some ⟨p, 0, none⟩), .string ⟨#[121]⟩, .slice a2 len2 cap2] w4 fun e w' => e = .returned (.int .i64 0) ∧ ∃ R rc A c, At w w' p 1000 R rc [⟨[120], A4, c4, ba ++ bb, len0⟩, ⟨[121], A, c, bc, 0⟩]) := Lib.hid (by
    refine (append_new [121] H4.out.disk rfl (by show 1 < 200; decide) (by decide) (H4.out.brow HC.out) (H4.out.browk HC.out) (by show ((ba ++ bb).length + 0) + len2 ≤ 1000; rw [hL.out]; omega) H4.out.below.size).mono ?_
    rintro e w' ⟨rfl, R', rc', A', c', hm⟩
    exact ⟨rfl, R', rc', A', c', H4.out.moved hm⟩)
  go_wp2_with fail
  refine M5.out.mono ?_
  rintro e w5 ⟨rfl, R5, rc5, A5, c5, h5⟩
  have H5 := Lib.hid h5
  clear h5 M5 H4
  have M6 : Hid (Calls Try.prog 16 #[.pointer (some ⟨p, 0, none⟩), .string ⟨#[120]⟩, .string ⟨#[121]⟩] w5 fun e w' => e = .returned (.int .i64 0) ∧ At w w' p 1000 R5 rc5 [⟨[121], A4, c4, ba ++ bb, len0⟩]) := Lib.hid
    ((rename_onto [120] [121] H5.out.disk (by decide) (by decide) (by decide) (k := 0) (j := 0) (f := ⟨[120], A4, c4, ba ++ bb, len0⟩) rfl rfl rfl).mono fun e w' ⟨he, hm⟩ => ⟨he, H5.out.moved hm⟩)
  go_wp2_with fail
  refine M6.out.mono ?_
  rintro e w6 ⟨rfl, h6⟩
  have H6 := Lib.hid h6
  clear h6 M6 H5
  have M7 : Hid (Calls Try.prog 12 #[.pointer (some ⟨p, 0, none⟩), .string ⟨#[121]⟩] w6 fun e w' => ∃ A c, e = .returned (.tuple #[.slice A (len0 + len1) c, .int .i64 0]) ∧ BRow w' A (len0 + len1) c (ba ++ bb) ∧ (∀ x, A = some x → ¬ rowOf R5 x.block) ∧ At w w' p 1000 R5 rc5 [⟨[121], A4, c4, ba ++ bb, len0⟩]) := Lib.hid (by
    refine (read_at [121] (f := ⟨[121], A4, c4, ba ++ bb, len0⟩) H6.out.disk rfl rfl hL.out).mono ?_
    rintro e w' ⟨A, c, rfl, ho⟩
    refine ⟨A, c, rfl, ho.row, fun x e hq => ?_, H6.out.on ho.below⟩
    have h1 := (ho.fresh x e).1
    have h2 := (H6.out.disk.lt (.inr (.inl hq))).2
    omega)
  go_wp2_with fail
  refine M7.out.mono ?_
  rintro e w7 ⟨Ax, cx, rfl, hx, hxa, h7⟩
  have H7 := Lib.hid h7
  have HX := Lib.hid hx
  have HXA := Lib.hid hxa
  clear h7 hx hxa M7 H6
  have M8 : Hid (Calls Try.prog 12 #[.pointer (some ⟨p, 0, none⟩), .string ⟨#[120]⟩] w7 fun e w' => e = .returned (.tuple #[.slice none 0 0, .int .i64 9]) ∧ w7 = w') := Lib.hid (read_none [120] H7.out.disk (by show (9 : Nat) ≠ 0; decide))
  go_wp2_with fail
  refine M8.out.mono ?_
  rintro e w8 ⟨rfl, rfl⟩
  have M9 : Hid (Calls Try.prog 17 #[.pointer (some ⟨p, 0, none⟩)] w7 fun e w' => ∃ g c, e = .returned (.slice (some ⟨g, 0, none⟩) 1 c) ∧ 1 ≤ c ∧ c ≤ maxLen ∧ w'.cell? ⟨g, 0, none⟩ = some (.string ⟨#[121]⟩) ∧ ¬ rowOf R5 g ∧ BRow w' Ax (len0 + len1) cx (ba ++ bb) ∧ At w w' p 1000 R5 rc5 [⟨[121], A4, c4, ba ++ bb, len0⟩]) := Lib.hid ((names_any H7.out.disk).mono fun e w' ⟨v, he, ho, hb⟩ => by
    have hc : 1 ≤ 1 := Nat.le_refl _
    rcases ho.2 with ⟨_, e0⟩ | ⟨g, c, cur, rfl, hg, hh, h1, h2, _⟩
    · cases e0
    · refine ⟨g, c, he, h1, h2, ?_, fun hq => ?_, HX.out.below hb, H7.out.on hb⟩
      · have := ho.cells (g := g) rfl 0 (str [121]) rfl
        rw [addr0] at this
        exact this
      · have := (H7.out.disk.lt (.inr (.inl hq))).2
        omega)
  go_wp2_with fail
  refine M9.out.mono ?_
  rintro e w9 ⟨gn, cn, rfl, hc1, hc2, hcn, hgn, hx, h9⟩
  have H9 := Lib.hid h9
  clear M8 M9 H7 HX
  have M10 : Hid (Calls Try.prog 11 #[.pointer (some ⟨p, 0, none⟩), .slice none 0 0] w9 fun e w' => e = .returned (.tuple #[]) ∧ BRow w' Ax (len0 + len1) cx (ba ++ bb) ∧ w'.cell? ⟨gn, 0, none⟩ = some (.string ⟨#[121]⟩) ∧ At w w' p 1000 R5 rc5 [⟨[121], A4, c4, ba, len0⟩]) := Lib.hid (by
    refine (crash_any (ks := []) h9.disk (irow_nil _) (fun x e => by cases e)).mono ?_
    rintro e w' ⟨rfl, hs⟩
    have := h9.step hs
    rw [crash_cut [121] A4 c4 _ _ HA.out.len] at this
    exact ⟨rfl, hs.kept.brow hx HXA.out, (World.cell?_of_block (a := ⟨gn, 0, none⟩) (hs.kept.block gn (World.block_lt_of_cell? _ _ hcn) hgn)).trans hcn, this⟩)
  clear h9 hx hcn hgn HXA H9
  go_wp2_with fail
  refine M10.out.mono ?_
  rintro e w10 ⟨rfl, hx, hcn, h10⟩
  have H10 := Lib.hid h10
  have HX := Lib.hid hx
  have HCN := Lib.hid hcn
  clear h10 hx hcn M10
  have M11 : Hid (Calls Try.prog 12 #[.pointer (some ⟨p, 0, none⟩), .string ⟨#[121]⟩] w10 fun e w' => ∃ A c, e = .returned (.tuple #[.slice A len0 c, .int .i64 0]) ∧ BRow w' A len0 c ba ∧ BRow w' Ax (len0 + len1) cx (ba ++ bb) ∧ w'.cell? ⟨gn, 0, none⟩ = some (.string ⟨#[121]⟩) ∧ At w w' p 1000 R5 rc5 [⟨[121], A4, c4, ba, len0⟩]) := Lib.hid (by
    refine (read_at [121] (f := ⟨[121], A4, c4, ba, len0⟩) H10.out.disk rfl rfl HA.out.len).mono ?_
    rintro e w' ⟨A, c, rfl, ho⟩
    exact ⟨A, c, rfl, ho.row, HX.out.below ho.below, (ho.below.cell (World.block_lt_of_cell? _ _ HCN.out)).trans HCN.out, H10.out.on ho.below⟩)
  go_wp2_with fail
  refine M11.out.mono ?_
  rintro e w11 ⟨Ay, cy, rfl, hy, hx, hcn, h11⟩
  have H11 := Lib.hid h11
  obtain ⟨X, hX⟩ : ∃ X, X = strB (ba ++ bb) := ⟨_, rfl⟩
  obtain ⟨SA, hSA⟩ : ∃ S, S = strB ba := ⟨_, rfl⟩
  obtain ⟨SB, hSB⟩ : ∃ S, S = strB bb := ⟨_, rfl⟩
  have hXX : X = SA ++ SB := by rw [hX, hSA, hSB, strB_app]
  have zA : SA.size = len0 := by rw [hSA, strB_size, HA.out.len]
  have zB : SB.size = len1 := by rw [hSB, strB_size, HB.out.len]
  have hsz : SA.size + SB.size ≤ 9223372036854775807 := by omega
  have HWB : Hid (∀ u : SubB w11, Below w.heap.size w u.w) := Lib.hid (fun u => past H11.out.below u.le)
  have CX : Hid (∀ u : SubB w11, (convert 22 9 (.slice Ax (len0 + len1) cx)).run Try.prog u.w = .ok (.string X) u.w) := Lib.hid (fun u => by rw [hX]; exact conv_bytes (hx.below u.le).bytes _ _ hx.len)
  have CY : Hid (∀ u : SubB w11, (convert 22 9 (.slice Ay len0 cy)).run Try.prog u.w = .ok (.string SA) u.w) := Lib.hid (fun u => by rw [hSA]; exact conv_bytes (hy.below u.le).bytes _ _ hy.len)
  have CA : Hid (∀ u : SubB w11, (convert 22 9 (.slice a0 len0 cap0)).run Try.prog u.w = .ok (.string SA) u.w) := Lib.hid (fun u => by
    have q := HA.out.below (HWB.out u)
    rw [hSA]; exact conv_bytes q.bytes _ _ q.len)
  have CB : Hid (∀ u : SubB w11, (convert 22 9 (.slice a1 len1 cap1)).run Try.prog u.w = .ok (.string SB) u.w) := Lib.hid (fun u => by
    have q := HB.out.below (HWB.out u)
    rw [hSB]; exact conv_bytes q.bytes _ _ q.len)
  have CN : Hid (∀ u : SubB w11, u.w.cell? ⟨gn, 0, none⟩ = some (.string ⟨#[121]⟩)) := Lib.hid (fun u => (u.le.cell (World.block_lt_of_cell? _ _ hcn)).trans hcn)
  have heq : (X.toList == (SA ++ SB).toList) = true := by rw [hXX]; simp
  have MT8 : Hid (Calls Try.prog 8 #[] w11 fun e w' => e = .returned (.bool true) ∧ Below w11.heap.size w11 w') := Lib.hid (MT.out w11)
  unfold maxLen at hc2
  clear hX hSA hSB hXX zA zB h11 hx hy hcn M11 H10 HX HCN hL HA HB HC MT
  go_wp2_with fail
  refine MT8.out.mono ?_
  rintro e w12 ⟨rfl, hb⟩
  have cx1 := CX.out ⟨w12, hb⟩
  have cy1 := CY.out ⟨w12, hb⟩
  have ca1 := CA.out ⟨w12, hb⟩
  have cb1 := CB.out ⟨w12, hb⟩
  have cn1 := CN.out ⟨w12, hb⟩
  have HW := Lib.hid (HWB.out ⟨w12, hb⟩)
  change (convert 22 9 (.slice Ax (len0 + len1) cx)).run Try.prog w12 = .ok (.string X) w12 at cx1
  change (convert 22 9 (.slice Ay len0 cy)).run Try.prog w12 = .ok (.string SA) w12 at cy1
  change (convert 22 9 (.slice a0 len0 cap0)).run Try.prog w12 = .ok (.string SA) w12 at ca1
  change (convert 22 9 (.slice a1 len1 cap1)).run Try.prog w12 = .ok (.string SB) w12 at cb1
  change w12.cell? ⟨gn, 0, none⟩ = some (.string ⟨#[121]⟩) at cn1
  change Hid (Below w.heap.size w w12) at HW
  clear CX CY CA CB CN HWB MT8 hb H11
  go_wp2
  go_ret
  exact ⟨rfl, HW.out⟩
end Go.Proofs.Ytofjealjecfkiaa.diskNames
