/-
  DiskCuts: the walk of the law.
-/
import Derived.Test.YtofjealjecfkiaaWalkDiskKeeps
set_option maxRecDepth 100000
namespace Go.Proofs.Ytofjealjecfkiaa
open Go.RowKit
set_option linter.unusedVariables false

theorem u64_nat (a : Int) : ∃ U : Nat, IntKind.u64.wrap a = (U : Int) := by
  refine ⟨(IntKind.u64.wrap a).toNat, ?_⟩
  rw [IntKind.wrap_u64]
  omega
theorem read_at {w : World} {base p room rc : Nat} {R : Option Addr} {fs : List Fl} (s : List UInt8) (h : DiskAt w base p room R rc fs) {f : Fl} (hc : (lookC fs s).2 = 0) (hf : fs[(lookC fs s).1]? = some f) {L : Nat} (hL : f.b.length = L) :
    Calls Try.prog 12 #[.pointer (some ⟨p, 0, none⟩), str s] w fun e w' => ∃ A' cap', e = .returned (.tuple #[.slice A' L cap', .int .i64 0]) ∧ OutB w w' w.heap.size A' L cap' f.b := by
  subst hL
  exact read_there s h hc hf
theorem crash_cut (nm : List UInt8) (A : Option Addr) (c : Nat) (b1 b2 : List Nat) {n : Nat} (hn : b1.length = n) : crashAll [] [⟨nm, A, c, b1 ++ b2, n⟩] = [⟨nm, A, c, b1, n⟩] := by
  have e : crashN 0 ⟨nm, A, c, b1 ++ b2, n⟩ = n := by
    show min (n + 0) (b1 ++ b2).length = n
    rw [List.length_append]
    omega
  show [crashF 0 ⟨nm, A, c, b1 ++ b2, n⟩] = _
  unfold crashF
  rw [e]
  show [(⟨nm, A, c, (b1 ++ b2).take n, n⟩ : Fl)] = _
  rw [List.take_append_of_le_length (by omega), List.take_of_length_le (by omega)]
end Go.Proofs.Ytofjealjecfkiaa
namespace Go.Proofs.Ytofjealjecfkiaa.diskCuts
open Go.RowKit
attribute [local go_sem ↓] Go.wp_at_zero Go.wp_at_succ
set_option linter.unusedVariables false

set_option maxHeartbeats 4000000 in
theorem walk (a0 : Option Addr) (len0 cap0 : Nat) (z0 : List Int) (a1 : Int) (a2 : Option Addr) (len2 cap2 : Nat) (z2 : List Int) (w : World) (w0 : IsRow .u8 w a0 len0 cap0 z0) (w1 : (Lit.int .i64 a1).wf = true) (w2 : IsRow .u8 w a2 len2 cap2 z2) :
    Calls Try.prog 5 #[.slice a0 len0 cap0, .int .i64 a1, .slice a2 len2 cap2] w fun e w' => e = .returned (.bool true) ∧ Below w.heap.size w w' := by
  obtain ⟨ba, hba⟩ := brow_of_row w0
  obtain ⟨bb, hbb⟩ := brow_of_row w2
  have M1 : Hid (Calls Try.prog 7 #[.int .i64 1000] w fun e w' => ∃ p, e = .returned (.pointer (some ⟨p, 0, none⟩)) ∧ At w w' p 1000 none 0 []) := at_new 1000 w (by decide)
  have MT : Hid (∀ v, Calls Try.prog 8 #[] v fun e w' => e = .returned (.bool true) ∧ Below v.heap.size v w') := told_any
  have HA := Lib.hid hba
  have HB := Lib.hid hbb
  have hm0 := hba.max
  have hm1 := hbb.max
  have hl0 := hba.le
  have hl1 := hbb.le
  unfold maxLen at hm0 hm1
  clear w0 w1 w2 hba hbb
  by_cases hbig1 : len0 < 1
  · have hbig' : (len0 : Int) < 1 := by omega
    go_enter Try.func5, Try.ntmps5
    go_wp2_with fail
    refine M1.out.mono ?_
    rintro e w1 ⟨p, rfl, h1⟩
    have H1 := Lib.hid h1
    clear h1
    go_wp2_with fail
    refine (MT.out _).mono ?_
    rintro e w2 ⟨rfl, hb⟩
    have HB2 := Lib.hid hb
    clear hb
    go_wp2
    go_ret
    exact ⟨rfl, past H1.out.below HB2.out⟩
  have hs1 : ¬ (len0 : Int) < 1 := by omega
  by_cases hbig : 60 < len0
  · have hbig' : (60 : Int) < (len0 : Int) := by omega
    go_enter Try.func5, Try.ntmps5
    go_wp2_with fail
    refine M1.out.mono ?_
    rintro e w1 ⟨p, rfl, h1⟩
    have H1 := Lib.hid h1
    clear h1
    go_wp2_with fail
    refine (MT.out _).mono ?_
    rintro e w2 ⟨rfl, hb⟩
    have HB2 := Lib.hid hb
    clear hb
    go_wp2
    go_ret
    exact ⟨rfl, past H1.out.below HB2.out⟩
  have hs0 : ¬ (60 : Int) < (len0 : Int) := by omega
  by_cases hbig2 : 20 < len2
  · have hbig' : (20 : Int) < (len2 : Int) := by omega
    go_enter Try.func5, Try.ntmps5
    go_wp2_with fail
    refine M1.out.mono ?_
    rintro e w1 ⟨p, rfl, h1⟩
    have H1 := Lib.hid h1
    clear h1
    go_wp2_with fail
    refine (MT.out _).mono ?_
    rintro e w2 ⟨rfl, hb⟩
    have HB2 := Lib.hid hb
    clear hb
    go_wp2
    go_ret
    exact ⟨rfl, past H1.out.below HB2.out⟩
  have hs2 : ¬ (20 : Int) < (len2 : Int) := by omega
  obtain ⟨U, hU⟩ := u64_nat a1
  obtain ⟨n1, hn1⟩ : ∃ n1, n1 = len0 + 1 := ⟨_, rfl⟩
  obtain ⟨K, hK⟩ : ∃ K, U % n1 = K := ⟨_, rfl⟩
  have hKn : K < n1 := hK ▸ Nat.mod_lt U (by omega)
  have hmz : (U : Int) % (n1 : Int) = (K : Int) := by rw [← hK]; simp
  have hw1 : IntKind.i64.wrap ((len0 : Int) + 1) = (n1 : Int) := by rw [IntKind.wrap_i64]; omega
  have hw2 : IntKind.u64.wrap (n1 : Int) = (n1 : Int) := by rw [IntKind.wrap_u64]; omega
  have hw3 : IntKind.i64.wrap (K : Int) = (K : Int) := by rw [IntKind.wrap_i64]; omega
  have hKl : K ≤ len0 := by omega
  have hn0 : (0 : Int) < (n1 : Int) := by omega
  clear hK
  have HN1 := Lib.hid hn1
  clear hn1
  have HTK : Hid ((ba.take K).length = K) := Lib.hid (by rw [List.length_take, HA.out.len]; omega)
  go_enter Try.func5, Try.ntmps5
  go_wp2_with fail
  refine M1.out.mono ?_
  rintro e w1 ⟨p, rfl, h1⟩
  have H1 := Lib.hid h1
  clear h1 M1
  have M2 : Hid (Calls Try.prog 9 #[.pointer (some ⟨p, 0, none⟩), .string ⟨#[102]⟩, .slice a0 len0 cap0] w1 fun e w' => e = .returned (.int .i64 0) ∧ ∃ R rc A c, At w w' p 1000 R rc [⟨[102], A, c, ba, 0⟩]) := Lib.hid (by
    refine (append_new [102] H1.out.disk rfl (by decide) (by decide) (H1.out.brow HA.out) (H1.out.browk HA.out) (by show 0 + len0 ≤ 1000; omega) H1.out.below.size).mono ?_
    rintro e w' ⟨rfl, R', rc', A', c', hm⟩
    exact ⟨rfl, R', rc', A', c', H1.out.moved hm⟩)
  go_wp2_with fail
  refine M2.out.mono ?_
  rintro e w2 ⟨rfl, R2, rc2, A2, c2, h2⟩
  have H2 := Lib.hid h2
  clear h2 M2 H1
  have M3 : Hid (Calls Try.prog 10 #[.pointer (some ⟨p, 0, none⟩), .string ⟨#[102]⟩] w2 fun e w' => e = .returned (.int .i64 0) ∧ At w w' p 1000 R2 rc2 [⟨[102], A2, c2, ba, len0⟩]) := Lib.hid
    ((sync_there [102] (k := 0) (f := ⟨[102], A2, c2, ba, 0⟩) H2.out.disk rfl rfl).mono fun e w' ⟨he, hs⟩ => ⟨he, by
      have := H2.out.step hs
      rw [show ([⟨[102], A2, c2, ba, 0⟩] : List Fl).set 0 { (⟨[102], A2, c2, ba, 0⟩ : Fl) with sure := (⟨[102], A2, c2, ba, 0⟩ : Fl).b.length } = [⟨[102], A2, c2, ba, len0⟩] from by rw [← HA.out.len]; rfl] at this
      exact this⟩)
  go_wp2_with fail
  refine M3.out.mono ?_
  rintro e w3 ⟨rfl, h3⟩
  have H3 := Lib.hid h3
  clear h3 M3 H2
  have MK : Hid (Calls Try.prog 15 #[.pointer (some ⟨p, 0, none⟩), .string ⟨#[102]⟩, .int .i64 (K : Int)] w3 fun e w' => e = .returned (.int .i64 0) ∧ At w w' p 1000 R2 rc2 [⟨[102], A2, c2, ba.take K, K⟩]) := Lib.hid
    ((cut_there [102] K (k := 0) (f := ⟨[102], A2, c2, ba, len0⟩) H3.out.disk rfl rfl (by show K ≤ ba.length; rw [HA.out.len]; exact hKl)).mono fun e w' ⟨he, hs⟩ => ⟨he, by
      have := H3.out.step hs
      rw [show ([⟨[102], A2, c2, ba, len0⟩] : List Fl).set 0 { (⟨[102], A2, c2, ba, len0⟩ : Fl) with b := (⟨[102], A2, c2, ba, len0⟩ : Fl).b.take K, sure := min (⟨[102], A2, c2, ba, len0⟩ : Fl).sure K } = [⟨[102], A2, c2, ba.take K, K⟩] from by
        show [(⟨[102], A2, c2, ba.take K, min len0 K⟩ : Fl)] = _
        rw [Nat.min_eq_right hKl]] at this
      exact this⟩)
  go_wp2_with fail
  refine MK.out.mono ?_
  rintro e w3b ⟨rfl, h3⟩
  have H3b := Lib.hid h3
  clear h3 MK H3
  have M4 : Hid (Calls Try.prog 9 #[.pointer (some ⟨p, 0, none⟩), .string ⟨#[102]⟩, .slice a2 len2 cap2] w3b fun e w' => e = .returned (.int .i64 0) ∧ ∃ A c, At w w' p 1000 R2 rc2 [⟨[102], A, c, ba.take K ++ bb, K⟩]) := Lib.hid (by
    refine (append_there [102] (k := 0) (f := ⟨[102], A2, c2, ba.take K, K⟩) H3b.out.disk rfl rfl (H3b.out.brow HB.out) (by show ((ba.take K).length + 0) + len2 ≤ 1000; rw [HTK.out]; omega) H3b.out.below.size).mono ?_
    rintro e w' ⟨rfl, A', c', hm⟩
    exact ⟨rfl, A', c', H3b.out.moved hm⟩)
  go_wp2_with fail
  refine M4.out.mono ?_
  rintro e w5 ⟨rfl, A4, c4, h5⟩
  have H5 := Lib.hid h5
  clear h5 M4 H3b
  have hL : Hid ((ba.take K ++ bb).length = K + len2) := Lib.hid (by rw [List.length_append, HTK.out, HB.out.len])
  have HAV : Hid (∀ v, Below w.heap.size w v → BRow v a0 K cap0 (ba.take K)) := Lib.hid (fun v hv => (HA.out.below hv).take hKl)
  have HBM : Hid (∀ v, Below w.heap.size w v → BRow v a2 len2 cap2 bb) := Lib.hid (fun v hv => HB.out.below hv)
  have M6 : Hid (Calls Try.prog 12 #[.pointer (some ⟨p, 0, none⟩), .string ⟨#[102]⟩] w5 fun e w' => ∃ A c, e = .returned (.tuple #[.slice A (K + len2) c, .int .i64 0]) ∧ BRow w' A (K + len2) c (ba.take K ++ bb) ∧ (∀ x, A = some x → ¬ rowOf R2 x.block) ∧ At w w' p 1000 R2 rc2 [⟨[102], A4, c4, ba.take K ++ bb, K⟩]) := Lib.hid (by
    refine (read_there [102] (f := ⟨[102], A4, c4, ba.take K ++ bb, K⟩) H5.out.disk rfl rfl).mono ?_
    rintro e w' ⟨A, c, rfl, ho⟩
    have hl := hL.out
    have hr := ho.row
    refine ⟨A, c, by rw [← hl], by rw [← hl]; exact hr, fun x e hq => ?_, H5.out.on ho.below⟩
    have h1 := (ho.fresh x e).1
    have h2 := (H5.out.disk.lt (.inr (.inl hq))).2
    omega)
  go_wp2_with fail
  refine M6.out.mono ?_
  rintro e w6 ⟨Ax, cx, rfl, hx, hxa, h6⟩
  have H6 := Lib.hid h6
  have M7 : Hid (Calls Try.prog 11 #[.pointer (some ⟨p, 0, none⟩), .slice none 0 0] w6 fun e w' => e = .returned (.tuple #[]) ∧ BRow w' Ax (K + len2) cx (ba.take K ++ bb) ∧ At w w' p 1000 R2 rc2 [⟨[102], A4, c4, ba.take K, K⟩]) := Lib.hid (by
    refine (crash_any (ks := []) h6.disk (irow_nil _) (fun x e => by cases e)).mono ?_
    rintro e w' ⟨rfl, hs⟩
    have := h6.step hs
    rw [crash_cut [102] A4 c4 _ _ HTK.out] at this
    exact ⟨rfl, hs.kept.brow hx hxa, this⟩)
  clear h6 hx hxa M6 H5
  go_wp2_with fail
  refine M7.out.mono ?_
  rintro e w7 ⟨rfl, hx, h7⟩
  have H7 := Lib.hid h7
  have HX := Lib.hid hx
  clear h7 hx M7 H6
  have M8 : Hid (Calls Try.prog 12 #[.pointer (some ⟨p, 0, none⟩), .string ⟨#[102]⟩] w7 fun e w' => ∃ A c, e = .returned (.tuple #[.slice A K c, .int .i64 0]) ∧ BRow w' A K c (ba.take K) ∧ BRow w' Ax (K + len2) cx (ba.take K ++ bb) ∧ At w w' p 1000 R2 rc2 [⟨[102], A4, c4, ba.take K, K⟩]) := Lib.hid (by
    refine (read_at [102] (f := ⟨[102], A4, c4, ba.take K, K⟩) H7.out.disk rfl rfl HTK.out).mono ?_
    rintro e w' ⟨A, c, rfl, ho⟩
    exact ⟨A, c, rfl, ho.row, HX.out.below ho.below, H7.out.on ho.below⟩)
  go_wp2_with fail
  refine M8.out.mono ?_
  rintro e w8 ⟨Ay, cy, rfl, hy, hx, h8⟩
  have H8 := Lib.hid h8
  obtain ⟨X, hX⟩ : ∃ X, X = strB (ba.take K ++ bb) := ⟨_, rfl⟩
  obtain ⟨SA, hSA⟩ : ∃ S, S = strB (ba.take K) := ⟨_, rfl⟩
  obtain ⟨SB, hSB⟩ : ∃ S, S = strB bb := ⟨_, rfl⟩
  have hXX : X = SA ++ SB := by rw [hX, hSA, hSB, strB_app]
  have zA : SA.size = K := by rw [hSA, strB_size]; exact HTK.out
  have zB : SB.size = len2 := by rw [hSB, strB_size, HB.out.len]
  have hsz : SA.size + SB.size ≤ 9223372036854775807 := by omega
  have HWB : Hid (∀ u : SubB w8, Below w.heap.size w u.w) := Lib.hid (fun u => past H8.out.below u.le)
  have cx1 : ∀ u : SubB w8, (convert 22 9 (.slice Ax (K + len2) cx)).run Try.prog u.w = .ok (.string X) u.w := fun u => by rw [hX]; exact conv_bytes (hx.below u.le).bytes _ _ hx.len
  have cy1 : ∀ u : SubB w8, (convert 22 9 (.slice Ay K cy)).run Try.prog u.w = .ok (.string SA) u.w := fun u => by rw [hSA]; exact conv_bytes (hy.below u.le).bytes _ _ hy.len
  have ca1 : ∀ u : SubB w8, (convert 22 9 (.slice a0 K cap0)).run Try.prog u.w = .ok (.string SA) u.w := fun u => by
    have q := HAV.out u.w (HWB.out u)
    rw [hSA]; exact conv_bytes q.bytes _ _ q.len
  have cb1 : ∀ u : SubB w8, (convert 22 9 (.slice a2 len2 cap2)).run Try.prog u.w = .ok (.string SB) u.w := fun u => by
    have q := HBM.out u.w (HWB.out u)
    rw [hSB]; exact conv_bytes q.bytes _ _ q.len
  have sh := fun w => sliceB_hi (A := a0) (n := len0) (cap := cap0) (k := K) (by omega) w
  have heq : (X.toList == (SA ++ SB).toList) = true := by rw [hXX]; simp
  have MT8 : Hid (∀ u : SubB w8, Calls Try.prog 8 #[] u.w fun e w'' => e = .returned (.bool true) ∧ ∃ u' : SubB w8, w'' = u'.w) := Lib.hid (fun u => calm_call (MT.out u.w))
  clear hX hSA hSB hXX zA zB h8 hx hy M8 H7 HX hL HBM HAV HA HB MT
  go_upto_region 10 with fail
  refine wp_region_calm (by kernel_rfl) (by kernel_rfl) ?_
  repeat (go_big_quiet_step ((go_at_call 8; exact MT8.out _)))
  refine wpQuiet_nil ?_
  rintro _ ⟨u, rfl⟩
  clear cx1 cy1 ca1 cb1
  go_wp2
  go_ret
  exact ⟨rfl, HWB.out u⟩
end Go.Proofs.Ytofjealjecfkiaa.diskCuts
