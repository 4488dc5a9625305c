/-
  DiskKeeps: the walk of the law.
-/
import Derived.Test.YtofjealjecfkiaaFTold
set_option maxRecDepth 100000
namespace Go.Proofs.Ytofjealjecfkiaa
open Go.RowKit
attribute [local go_sem ↓] Go.wp_at_zero Go.wp_at_succ
set_option linter.unusedVariables false

theorem brow_of_row {w : World} {a : Option Addr} {len cap : Nat} {zs : List Int} (h : IsRow .u8 w a len cap zs) : ∃ bs, BRow w a len cap bs := by
  obtain ⟨bs, h1, h2, h3, h4⟩ := Bytes.of_row h
  refine ⟨bs, h2, h1, h3, h4, fun e => ?_⟩
  rcases h with ⟨_, _, hc, _⟩ | ⟨x, hx, _⟩
  · exact hc
  · rw [e] at hx; cases hx
theorem max2 (ts : Array TypeId) (t : TypeId) (x y : Int) (W : World) : (Builtin.max_ ts t #[.int .i64 x, .int .i64 y]).run Try.prog W = .ok (.int .i64 (max x y)) W := Lib.run_max_ints W ts t .i64 .i64 x y
/-- A row that came in, behind steps of the disk. -/
theorem At.brow {w0 w : World} {p room rc n cap : Nat} {R : Option Addr} {fs : List Fl} {A : Option Addr} {bs : List Nat} (h : At w0 w p room R rc fs) (hb : BRow w0 A n cap bs) : BRow w A n cap bs := hb.below h.below
theorem At.browk {w0 w : World} {p room rc n cap : Nat} {R : Option Addr} {fs : List Fl} {A : Option Addr} {bs : List Nat} (h : At w0 w p room R rc fs) (hb : BRow w0 A n cap bs) : ∀ v, Kept w v (foot p R fs) → BRow v A n cap bs :=
  fun v hk => hb.below (h.below.trans (hk.below h.below.size (fun q hq => (h.disk.lt hq).1)))
theorem crash_keep (nm : List UInt8) (A : Option Addr) (c : Nat) (ba bb : List Nat) (q : Int) {na nb : Nat} (ha : ba.length = na) (hb : bb.length = nb) : crashAll [q] [⟨nm, A, c, ba ++ bb, na⟩] = [⟨nm, A, c, ba ++ bb.take (min q.toNat nb), na + min q.toNat nb⟩] := by
  have e : crashN q ⟨nm, A, c, ba ++ bb, na⟩ = na + min q.toNat nb := by
    show min (na + q.toNat) (ba ++ bb).length = _
    rw [List.length_append]
    omega
  show [crashF q ⟨nm, A, c, ba ++ bb, na⟩] = _
  unfold crashF
  rw [e]
  show [(⟨nm, A, c, (ba ++ bb).take (na + min q.toNat nb), na + min q.toNat nb⟩ : Fl)] = _
  rw [List.take_append, List.take_of_length_le (by omega), show na + min q.toNat nb - ba.length = min q.toNat nb by omega]
theorem crash_sure (nm : List UInt8) (A : Option Addr) (c : Nat) (b : List Nat) {n : Nat} (hn : b.length = n) : crashAll [] [⟨nm, A, c, b, n⟩] = [⟨nm, A, c, b, n⟩] := by
  have e : crashN 0 ⟨nm, A, c, b, n⟩ = n := by
    show min (n + 0) b.length = n
    omega
  show [crashF 0 ⟨nm, A, c, b, n⟩] = _
  unfold crashF
  rw [e]
  show [(⟨nm, A, c, b.take n, n⟩ : Fl)] = _
  rw [List.take_of_length_le (by omega)]
theorem irow_nil (w : World) : IRow w none 0 0 [] := ⟨rfl, Nat.le_refl _, Nat.zero_le _, fun h => absurd h (by decide), by simp⟩
end Go.Proofs.Ytofjealjecfkiaa
namespace Go.Proofs.Ytofjealjecfkiaa.diskKeeps
open Go.RowKit
attribute [local go_sem ↓] Go.wp_at_zero Go.wp_at_succ
set_option linter.unusedVariables false

set_option maxHeartbeats 4000000 in
theorem walk (a0 : Option Addr) (len0 cap0 : Nat) (z0 : List Int) (a1 : Option Addr) (len1 cap1 : Nat) (z1 : List Int) (a2 : Int) (w : World) (w0 : IsRow .u8 w a0 len0 cap0 z0) (w1 : IsRow .u8 w a1 len1 cap1 z1) (w2 : (Lit.int .i64 a2).wf = true) :
    Calls Try.prog 3 #[.slice a0 len0 cap0, .slice a1 len1 cap1, .int .i64 a2] w fun e w' => e = .returned (.bool true) ∧ Below w.heap.size w w' := by
  obtain ⟨ba, hba⟩ := brow_of_row w0
  obtain ⟨bb, hbb⟩ := brow_of_row w1
  have hfit := vfits_i64 w2
  have M1 : Hid (Calls Try.prog 7 #[.int .i64 1000] w fun e w' => ∃ p, e = .returned (.pointer (some ⟨p, 0, none⟩)) ∧ At w w' p 1000 none 0 []) := at_new 1000 w (by decide)
  have MT : Hid (∀ v, Calls Try.prog 8 #[] v fun e w' => e = .returned (.bool true) ∧ Below v.heap.size v w') := told_any
  have HA := Lib.hid hba
  have HB := Lib.hid hbb
  have hm0 := hba.max
  have hm1 := hbb.max
  have hl0 := hba.le
  have hl1 := hbb.le
  unfold maxLen at hm0 hm1
  clear w0 w1 w2 hba hbb
  by_cases hbig : 60 < len0
  · have hbig' : (60 : Int) < (len0 : Int) := by omega
    go_enter Try.func3, Try.ntmps3
    go_wp2_with fail
    refine M1.out.mono ?_
    rintro e w1 ⟨p, rfl, h1⟩
    have H1 := Lib.hid h1
    clear h1
    go_wp2_with fail
    refine (MT.out _).mono ?_
    rintro e w2 ⟨rfl, hb⟩
    have HB2 := Lib.hid hb
    clear hb
    go_wp2
    go_ret
    exact ⟨rfl, past H1.out.below HB2.out⟩
  have hs0 : ¬ (60 : Int) < (len0 : Int) := by omega
  by_cases hbig2 : 60 < len1
  · have hbig' : (60 : Int) < (len1 : Int) := by omega
    go_enter Try.func3, Try.ntmps3
    go_wp2_with fail
    refine M1.out.mono ?_
    rintro e w1 ⟨p, rfl, h1⟩
    have H1 := Lib.hid h1
    clear h1
    go_wp2_with fail
    refine (MT.out _).mono ?_
    rintro e w2 ⟨rfl, hb⟩
    have HB2 := Lib.hid hb
    clear hb
    go_wp2
    go_ret
    exact ⟨rfl, past H1.out.below HB2.out⟩
  have hs1 : ¬ (60 : Int) < (len1 : Int) := by omega
  go_enter Try.func3, Try.ntmps3
  go_wp2_with fail
  refine M1.out.mono ?_
  rintro e w1 ⟨p, rfl, h1⟩
  have H1 := Lib.hid h1
  clear h1 M1
  have M2 : Hid (Calls Try.prog 9 #[.pointer (some ⟨p, 0, none⟩), .string ⟨#[102]⟩, .slice a0 len0 cap0] w1 fun e w' => e = .returned (.int .i64 0) ∧ ∃ R rc A c, At w w' p 1000 R rc [⟨[102], A, c, ba, 0⟩]) := Lib.hid (by
    refine (append_new [102] H1.out.disk rfl (by decide) (by decide) (H1.out.brow HA.out) (H1.out.browk HA.out) (by show 0 + len0 ≤ 1000; omega) H1.out.below.size).mono ?_
    rintro e w' ⟨rfl, R', rc', A', c', hm⟩
    exact ⟨rfl, R', rc', A', c', H1.out.moved hm⟩)
  go_wp2_with fail
  refine M2.out.mono ?_
  rintro e w2 ⟨rfl, R2, rc2, A2, c2, h2⟩
  have H2 := Lib.hid h2
  clear h2 M2 H1
  have M3 : Hid (Calls Try.prog 10 #[.pointer (some ⟨p, 0, none⟩), .string ⟨#[102]⟩] w2 fun e w' => e = .returned (.int .i64 0) ∧ At w w' p 1000 R2 rc2 [⟨[102], A2, c2, ba, len0⟩]) := Lib.hid
    ((sync_there [102] (k := 0) (f := ⟨[102], A2, c2, ba, 0⟩) H2.out.disk rfl rfl).mono fun e w' ⟨he, hs⟩ => ⟨he, by
      have := H2.out.step hs
      rw [show ([⟨[102], A2, c2, ba, 0⟩] : List Fl).set 0 { (⟨[102], A2, c2, ba, 0⟩ : Fl) with sure := (⟨[102], A2, c2, ba, 0⟩ : Fl).b.length } = [⟨[102], A2, c2, ba, len0⟩] from by rw [← HA.out.len]; rfl] at this
      exact this⟩)
  go_wp2_with fail
  refine M3.out.mono ?_
  rintro e w3 ⟨rfl, h3⟩
  have H3 := Lib.hid h3
  clear h3 M3 H2
  have M4 : Hid (Calls Try.prog 9 #[.pointer (some ⟨p, 0, none⟩), .string ⟨#[102]⟩, .slice a1 len1 cap1] w3 fun e w' => e = .returned (.int .i64 0) ∧ ∃ A c, At w w' p 1000 R2 rc2 [⟨[102], A, c, ba ++ bb, len0⟩]) := Lib.hid (by
    refine (append_there [102] (k := 0) (f := ⟨[102], A2, c2, ba, len0⟩) H3.out.disk rfl rfl (H3.out.brow HB.out) (by show (ba.length + 0) + len1 ≤ 1000; rw [HA.out.len]; omega) H3.out.below.size).mono ?_
    rintro e w' ⟨rfl, A', c', hm⟩
    exact ⟨rfl, A', c', H3.out.moved hm⟩)
  go_wp2_with fail
  refine M4.out.mono ?_
  rintro e w4 ⟨rfl, A4, c4, h4⟩
  have H4 := Lib.hid h4
  clear h4 M4 H3
  obtain ⟨m, hm⟩ : ∃ m, m = min a2.toNat len1 := ⟨_, rfl⟩
  have M5 : Hid (Calls Try.prog 11 #[.pointer (some ⟨p, 0, none⟩), .slice (some ⟨w4.heap.size, 0, none⟩) 1 1] (w4.alloc (.cells #[.int .i64 a2] 3)) fun e w' => e = .returned (.tuple #[]) ∧ At w w' p 1000 R2 rc2 [⟨[102], A4, c4, ba ++ bb.take m, len0 + m⟩]) := Lib.hid (by
    have h5 := H4.out.on (below_box w4 (.cells #[.int .i64 a2] 3))
    refine (crash_any (ks := [a2]) h5.disk ⟨rfl, Nat.le_refl _, (by show 1 ≤ maxLen; decide), fun _ => ⟨_, 0, rfl, fun j hj => ?_⟩, by intro q hq; simp at hq; subst hq; exact hfit⟩ ?_).mono ?_
    · have hj' : j < 1 := hj
      obtain rfl : j = 0 := by omega
      rw [cell_of_row _ _ _ _ 3 (0, 0) (heap_alloc_new w4 _)]
      rfl
    · intro x e hq
      exact foot_new H4.out.disk x e (.inr (.inl hq))
    · rintro e w' ⟨rfl, hs⟩
      have := h5.step hs
      rw [crash_keep [102] A4 c4 ba bb a2 HA.out.len HB.out.len, ← hm] at this
      exact ⟨rfl, this⟩)
  go_wp2_with fail
  refine M5.out.mono ?_
  rintro e w5 ⟨rfl, h5⟩
  have H5 := Lib.hid h5
  clear h5 M5 H4
  -- the bytes that are to be there
  have hma : m ≤ len1 := by omega
  have hL : Hid ((ba ++ bb.take m).length = len0 + m) := Lib.hid (by rw [List.length_append, List.length_take, HA.out.len, HB.out.len]; omega)
  have mx := fun ts t W => max2 ts t a2 0 W
  have mn := fun ts t W => min2 ts t (max a2 0) (len1 : Int) W
  have e9 : min (max a2 0) (len1 : Int) = (m : Int) := by omega
  rw [e9] at mn
  generalize max a2 0 = K at *
  have HBM : Hid (∀ v, Below w.heap.size w v → BRow v a1 m cap1 (bb.take m)) := Lib.hid (fun v hv => (HB.out.below hv).take hma)
  have HAV : Hid (∀ v, Below w.heap.size w v → BRow v a0 len0 cap0 ba) := Lib.hid (fun v hv => HA.out.below hv)
  have hm60 : m ≤ 60 := by omega
  clear hm e9
  have M6 : Hid (Calls Try.prog 12 #[.pointer (some ⟨p, 0, none⟩), .string ⟨#[102]⟩] w5 fun e w' => ∃ A c, e = .returned (.tuple #[.slice A (len0 + m) c, .int .i64 0]) ∧ BRow w' A (len0 + m) c (ba ++ bb.take m) ∧ (∀ x, A = some x → ¬ rowOf R2 x.block) ∧ At w w' p 1000 R2 rc2 [⟨[102], A4, c4, ba ++ bb.take m, len0 + m⟩]) := Lib.hid (by
    refine (read_there [102] (f := ⟨[102], A4, c4, ba ++ bb.take m, len0 + m⟩) H5.out.disk rfl rfl).mono ?_
    rintro e w' ⟨A, c, rfl, ho⟩
    have hl := hL.out
    have hr := ho.row
    refine ⟨A, c, by rw [← hl], by rw [← hl]; exact hr, fun x e hq => ?_, H5.out.on ho.below⟩
    have h1 := (ho.fresh x e).1
    have h2 := (H5.out.disk.lt (.inr (.inl hq))).2
    omega)
  go_wp2_with fail
  refine M6.out.mono ?_
  rintro e w6 ⟨Ax, cx, rfl, hx, hxa, h6⟩
  have H6 := Lib.hid h6
  have M7 : Hid (Calls Try.prog 11 #[.pointer (some ⟨p, 0, none⟩), .slice none 0 0] w6 fun e w' => e = .returned (.tuple #[]) ∧ BRow w' Ax (len0 + m) cx (ba ++ bb.take m) ∧ At w w' p 1000 R2 rc2 [⟨[102], A4, c4, ba ++ bb.take m, len0 + m⟩]) := Lib.hid (by
    refine (crash_any (ks := []) h6.disk (irow_nil _) (fun x e => by cases e)).mono ?_
    rintro e w' ⟨rfl, hs⟩
    have := h6.step hs
    rw [crash_sure [102] A4 c4 _ hL.out] at this
    exact ⟨rfl, hs.kept.brow hx hxa, this⟩)
  clear h6 hx hxa M6 H5
  go_wp2_with fail
  refine M7.out.mono ?_
  rintro e w7 ⟨rfl, hx, h7⟩
  have H7 := Lib.hid h7
  have HX := Lib.hid hx
  clear h7 hx M7 H6
  have M8 : Hid (Calls Try.prog 12 #[.pointer (some ⟨p, 0, none⟩), .string ⟨#[102]⟩] w7 fun e w' => ∃ A c, e = .returned (.tuple #[.slice A (len0 + m) c, .int .i64 0]) ∧ BRow w' A (len0 + m) c (ba ++ bb.take m) ∧ BRow w' Ax (len0 + m) cx (ba ++ bb.take m) ∧ At w w' p 1000 R2 rc2 [⟨[102], A4, c4, ba ++ bb.take m, len0 + m⟩]) := Lib.hid (by
    refine (read_there [102] (f := ⟨[102], A4, c4, ba ++ bb.take m, len0 + m⟩) H7.out.disk rfl rfl).mono ?_
    rintro e w' ⟨A, c, rfl, ho⟩
    have hl := hL.out
    have hr := ho.row
    exact ⟨A, c, by rw [← hl], by rw [← hl]; exact hr, HX.out.below ho.below, H7.out.on ho.below⟩)
  go_wp2_with fail
  refine M8.out.mono ?_
  rintro e w8 ⟨Ay, cy, rfl, hy, hx, h8⟩
  have H8 := Lib.hid h8
  obtain ⟨X, hX⟩ : ∃ X, X = strB (ba ++ bb.take m) := ⟨_, rfl⟩
  obtain ⟨SA, hSA⟩ : ∃ S, S = strB ba := ⟨_, rfl⟩
  obtain ⟨SB, hSB⟩ : ∃ S, S = strB (bb.take m) := ⟨_, rfl⟩
  have hXX : X = SA ++ SB := by rw [hX, hSA, hSB, strB_app]
  have zA : SA.size = len0 := by rw [hSA, strB_size]; exact HA.out.len
  have zB : SB.size = m := by rw [hSB, strB_size, (HBM.out w (Below.refl _ _)).len]
  have hsz : SA.size + SB.size ≤ 9223372036854775807 := by omega
  have HWB : Hid (∀ u : SubB w8, Below w.heap.size w u.w) := Lib.hid (fun u => past H8.out.below u.le)
  have cx1 : ∀ u : SubB w8, (convert 22 9 (.slice Ax (len0 + m) cx)).run Try.prog u.w = .ok (.string X) u.w := fun u => by rw [hX]; exact conv_bytes (hx.below u.le).bytes _ _ hx.len
  have cy1 : ∀ u : SubB w8, (convert 22 9 (.slice Ay (len0 + m) cy)).run Try.prog u.w = .ok (.string X) u.w := fun u => by rw [hX]; exact conv_bytes (hy.below u.le).bytes _ _ hy.len
  have ca1 : ∀ u : SubB w8, (convert 22 9 (.slice a0 len0 cap0)).run Try.prog u.w = .ok (.string SA) u.w := fun u => by
    have q := HAV.out u.w (HWB.out u)
    rw [hSA]; exact conv_bytes q.bytes _ _ q.len
  have cb1 : ∀ u : SubB w8, (convert 22 9 (.slice a1 m cap1)).run Try.prog u.w = .ok (.string SB) u.w := fun u => by
    have q := HBM.out u.w (HWB.out u)
    rw [hSB]; exact conv_bytes q.bytes _ _ q.len
  have sh := fun w => sliceB_hi (A := a1) (n := len1) (cap := cap1) (k := m) (by omega) w
  have heq : (X.toList == (SA ++ SB).toList) = true := by rw [hXX]; simp
  have MT8 : Hid (∀ u : SubB w8, Calls Try.prog 8 #[] u.w fun e w'' => e = .returned (.bool true) ∧ ∃ u' : SubB w8, w'' = u'.w) := Lib.hid (fun u => calm_call (MT.out u.w))
  clear hX hSA hSB hXX zA zB h8 hx hy M8 H7 HX hL HBM HAV HA HB MT
  go_upto_region 11 with fail
  refine wp_region_calm (by kernel_rfl) (by kernel_rfl) ?_
  repeat (go_big_quiet_step ((go_at_call 8; exact MT8.out _)))
  refine wpQuiet_nil ?_
  rintro _ ⟨u, rfl⟩
  clear cx1 cy1 ca1 cb1
  go_wp2
  go_ret
  exact ⟨rfl, HWB.out u⟩
end Go.Proofs.Ytofjealjecfkiaa.diskKeeps
