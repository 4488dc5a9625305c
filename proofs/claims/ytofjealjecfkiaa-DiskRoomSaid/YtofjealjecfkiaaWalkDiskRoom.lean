/-
  DiskRoom: the walk of the law.
-/
import Derived.Test.YtofjealjecfkiaaWalkDiskNames
set_option maxRecDepth 100000
namespace Go.Proofs.Ytofjealjecfkiaa
open Go.RowKit
attribute [local go_sem ↓] Go.wp_at_zero Go.wp_at_succ
set_option linter.unusedVariables false

/-- make of a row of bytes: what it gives, and that it reads as noughts. -/
theorem zrow (m : Nat) (hm : m ≤ 1000000) : ∃ Z : Array Value, (∀ W : World, (Instr.makeSlice 22 (.int .i64 (m : Int)) (.int .i64 (m : Int))).run Try.prog W = .ok (.slice (some ⟨W.heap.size, 0, none⟩) m m) (W.alloc (.cells Z 5))) ∧
    ∀ W : World, BRow (W.alloc (.cells Z 5)) (some ⟨W.heap.size, 0, none⟩) m m (List.replicate m 0) := by
  obtain ⟨i0, hi, hz0, hz1, hz2⟩ := info_parts Try.info5
  refine ⟨madeCells (Value.int .u8 0).cells (((m : Nat) : Int).toNat * i0.size), fun W => ?_, fun W => ?_⟩
  · have q := run_make (P := Try.prog) W 22 5 i0 (.int .u8 0) Try.underlying22 hi hz0 .i64 .i64 (m : Int) (m : Int) (by omega) (by omega) (by rw [hz2]; omega) (by omega)
    simpa using q
  · have e : madeCells (Value.int .u8 0).cells (((m : Nat) : Int).toNat * i0.size) = (bytesV (List.replicate m 0)).toArray := by
      apply Array.toList_inj.1
      rw [show (Value.int .u8 0).cells = #[Value.int .u8 0] from rfl, toList_madeCells_one, hz1]
      simp [bytesV]
    rw [e]
    exact lit_brow W (List.replicate m 0) m (by simp) (by intro c hc; rw [List.eq_of_mem_replicate hc]; decide) (by unfold maxLen; omega) (0, 0)

/-- Amid the loop: the bytes were put so many times. -/
structure RInv (w wr : World) (p N L k : Nat) (R : Option Addr) (rc : Nat) (fs : List Fl) : Prop where
  at_ : At w wr p N R rc fs
  files : (k = 0 ∧ fs = []) ∨ (0 < k ∧ ∃ A c b, fs = [⟨[102], A, c, b, 0⟩] ∧ b.length = k * L)
section
variable {w wr : World} {p N L k rc : Nat} {R : Option Addr} {fs : List Fl}
theorem RInv.used (h : RInv w wr p N L k R rc fs) : usedOf fs = k * L := by
  rcases h.files with ⟨rfl, rfl⟩ | ⟨_, A, c, b, rfl, hb⟩
  · simp [usedOf]
  · show b.length + 0 = _
    rw [hb, Nat.add_zero]
theorem room_put {A1 : Option Addr} {cap1 : Nat} {bs : List Nat} (h : RInv w wr p N L k R rc fs) (hb : BRow w A1 L cap1 bs) (hu : k * L + L ≤ N) :
    Calls Try.prog 9 #[.pointer (some ⟨p, 0, none⟩), .string ⟨#[102]⟩, .slice A1 L cap1] wr fun e w' => e = .returned (.int .i64 0) ∧ ∃ R' rc' fs', RInv w w' p N L (k + 1) R' rc' fs' := by
  have hat := h.at_
  have hus := h.used
  rcases h.files with ⟨rfl, rfl⟩ | ⟨hk, A, c, b, rfl, hbl⟩
  · refine (append_new [102] hat.disk rfl (by decide) (by decide) (hat.brow hb) (hat.browk hb) (by rw [hus]; exact hu) hat.below.size).mono ?_
    rintro e w' ⟨rfl, R', rc', A', c', hm⟩
    exact ⟨rfl, R', rc', _, hat.moved hm, .inr ⟨by omega, A', c', bs, rfl, by rw [hb.len]; omega⟩⟩
  · refine (append_there [102] (k := 0) (f := ⟨[102], A, c, b, 0⟩) hat.disk rfl rfl (hat.brow hb) (by rw [hus]; exact hu) hat.below.size).mono ?_
    rintro e w' ⟨rfl, A', c', hm⟩
    exact ⟨rfl, R, rc, _, hat.moved hm, .inr ⟨by omega, A', c', b ++ bs, rfl, by rw [List.length_append, hbl, hb.len, Nat.succ_mul]⟩⟩
theorem room_full {A1 : Option Addr} {cap1 : Nat} (h : RInv w wr p N L k R rc fs) (hL : L ≤ 60) (hu : N < k * L + L) :
    Calls Try.prog 9 #[.pointer (some ⟨p, 0, none⟩), .string ⟨#[102]⟩, .slice A1 L cap1] wr fun e w' => e = .returned (.int .i64 8) ∧ RInv w w' p N L k R rc fs := by
  have hat := h.at_
  have hus := h.used
  have hf : ∃ j, lookC fs [102] = (j, 0) ∨ (lookC fs [102] = (j, 9) ∧ fs.length < 200) := by
    rcases h.files with ⟨rfl, rfl⟩ | ⟨hk, A, c, b, rfl, hbl⟩
    · exact ⟨0, .inr ⟨rfl, by decide⟩⟩
    · exact ⟨0, .inl rfl⟩
  obtain ⟨j, hf⟩ := hf
  refine (append_full [102] hat.disk hf (by omega) (by rw [hus]; exact hu)).mono ?_
  rintro e w' ⟨rfl, hb⟩
  exact ⟨rfl, hat.on hb, h.files⟩
/-- What comes behind the loop: the rest of the room is filled, one byte more is not taken, what is taken away makes room. -/
theorem room_g (h : RInv w wr p N L k R rc fs) {M : Nat} (hM : k * L + M = N) {Z : Array Value} (hZ : BRow (wr.alloc (.cells Z 5)) (some ⟨wr.heap.size, 0, none⟩) M M (List.replicate M 0)) :
    Calls Try.prog 9 #[.pointer (some ⟨p, 0, none⟩), .string ⟨#[103]⟩, .slice (some ⟨wr.heap.size, 0, none⟩) M M] (wr.alloc (.cells Z 5)) fun e w' => e = .returned (.int .i64 0) ∧ ∃ R' rc' A c b, b.length = M ∧ At w w' p N R' rc' (fs ++ [⟨[103], A, c, b, 0⟩]) := by
  have hat := h.at_.on (below_box wr (.cells Z 5))
  have hus := h.used
  have hf : lookC fs [103] = (fs.length, 9) ∧ fs.length < 200 := by
    rcases h.files with ⟨rfl, rfl⟩ | ⟨hk, A, c, b, rfl, hbl⟩
    · exact ⟨rfl, by decide⟩
    · exact ⟨rfl, by show 1 < 200; decide⟩
  refine (append_new [103] hat.disk hf.1 hf.2 (by decide) hZ (fun v hk => hk.brow hZ (fun x e => foot_new h.at_.disk x e)) (by rw [hus]; omega) hat.below.size).mono ?_
  rintro e w' ⟨rfl, R', rc', A', c', hm⟩
  exact ⟨rfl, R', rc', A', c', List.replicate M 0, by simp, hat.moved hm⟩
end
end Go.Proofs.Ytofjealjecfkiaa
namespace Go.Proofs.Ytofjealjecfkiaa.diskRoom
open Go.RowKit
attribute [local go_sem ↓] Go.wp_at_zero Go.wp_at_succ
set_option linter.unusedVariables false

set_option maxHeartbeats 4000000 in
theorem walk (a0 : Int) (a1 : Option Addr) (len1 cap1 : Nat) (z1 : List Int) (w : World) (w0 : (Lit.int .i64 a0).wf = true) (w1 : IsRow .u8 w a1 len1 cap1 z1) :
    Calls Try.prog 4 #[.int .i64 a0, .slice a1 len1 cap1] w fun e w' => e = .returned (.bool true) ∧ Below w.heap.size w w' := by
  obtain ⟨bb, hbb⟩ := brow_of_row w1
  obtain ⟨U, hU⟩ := u64_nat a0
  obtain ⟨N, hN⟩ : ∃ N, U % 301 = N := ⟨_, rfl⟩
  have hNl : N ≤ 300 := by omega
  have hmz : (U : Int) % 301 = (N : Int) := by omega
  have hw0 : IntKind.i64.wrap (N : Int) = (N : Int) := by rw [IntKind.wrap_i64]; omega
  clear hN
  have M1 := Lib.hid (at_new N w (by omega))
  have MT : Hid (∀ v, Calls Try.prog 8 #[] v fun e w' => e = .returned (.bool true) ∧ Below v.heap.size v w') := told_any
  have HB := Lib.hid hbb
  have hm1 := hbb.max
  have hl1 := hbb.le
  unfold maxLen at hm1
  clear w0 w1 hbb
  by_cases hbig1 : len1 < 1
  · have hbig' : (len1 : Int) < 1 := by omega
    go_enter Try.func4, Try.ntmps4
    go_wp2_with fail
    refine M1.out.mono ?_
    rintro e w1 ⟨p, rfl, h1⟩
    have H1 := Lib.hid h1
    clear h1
    go_wp2_with fail
    refine (MT.out _).mono ?_
    rintro e w2 ⟨rfl, hb⟩
    have HB2 := Lib.hid hb
    clear hb
    go_wp2
    go_ret
    exact ⟨rfl, past H1.out.below HB2.out⟩
  have hs1 : ¬ (len1 : Int) < 1 := by omega
  by_cases hbig : 60 < len1
  · have hbig' : (60 : Int) < (len1 : Int) := by omega
    go_enter Try.func4, Try.ntmps4
    go_wp2_with fail
    refine M1.out.mono ?_
    rintro e w1 ⟨p, rfl, h1⟩
    have H1 := Lib.hid h1
    clear h1
    go_wp2_with fail
    refine (MT.out _).mono ?_
    rintro e w2 ⟨rfl, hb⟩
    have HB2 := Lib.hid hb
    clear hb
    go_wp2
    go_ret
    exact ⟨rfl, past H1.out.below HB2.out⟩
  have hs0 : ¬ (60 : Int) < (len1 : Int) := by omega
  go_enter Try.func4, Try.ntmps4
  go_wp2_with fail
  refine M1.out.mono ?_
  rintro e w1 ⟨p, rfl, h1⟩
  have HI : Hid (RInv w w1 p N len1 0 none 0 []) := Lib.hid ⟨h1, .inl ⟨rfl, rfl⟩⟩
  clear h1 M1
  go_wp2
  go_loopw [7] (fun sk wr => ∃ (k : Nat) (R : Option Addr) (rc : Nat) (fs : List Fl), k ≤ N ∧ sk = .int .i64 (k : Int) ∧ Hid (k * len1 ≤ N) ∧ Hid (RInv w wr p N len1 k R rc fs)) (fun sk _ => N + 1 - (intOf sk).toNat)
  case atStart => exact ⟨0, none, 0, [], by omega, rfl, Lib.hid (by omega), HI⟩
  case round =>
    obtain ⟨k, R, rc, fs, hk, rfl, HD, HR⟩ := hrel
    by_cases hfit : k * len1 + len1 ≤ N
    · have M2 := Lib.hid (room_put HR.out HB.out hfit)
      have hk1 : k + 1 ≤ N := by
        have : k ≤ k * len1 := Nat.le_mul_of_pos_right k (by omega)
        omega
      have HD2 : Hid ((k + 1) * len1 ≤ N) := Lib.hid (by rw [Nat.succ_mul]; exact hfit)
      have hwk : IntKind.i64.wrap ((k : Int) + 1) = (k : Int) + 1 := by rw [IntKind.wrap_i64]; omega
      have h400 : ¬ (400 : Int) < (k : Int) + 1 := by omega
      clear hfit HD HR HI
      go_wp2_with fail
      refine M2.out.mono ?_
      rintro e w2 ⟨rfl, R', rc', fs', h2⟩
      have H2 := Lib.hid h2
      clear h2 M2
      go_wp2
      go_roundw
      case rel => exact ⟨k + 1, R', rc', fs', hk1, by go_num, HD2, H2⟩
      case measure => simp [intOf]; omega
    · have M2 := Lib.hid (room_full (A1 := a1) (cap1 := cap1) HR.out (by omega) (by omega))
      obtain ⟨D, hD⟩ : ∃ D, D = k * len1 := ⟨_, rfl⟩
      have hDN : D ≤ N := by rw [hD]; exact HD.out
      obtain ⟨M, hM⟩ : ∃ M, M = N - D := ⟨_, rfl⟩
      have hmul : (k : Int) * (len1 : Int) = (D : Int) := by rw [hD]; simp
      have hwD : IntKind.i64.wrap (D : Int) = (D : Int) := by rw [IntKind.wrap_i64]; omega
      have hsub : (N : Int) - (D : Int) = (M : Int) := by omega
      have hwM : IntKind.i64.wrap (M : Int) = (M : Int) := by rw [IntKind.wrap_i64]; omega
      have hquo : Hid (N / len1 = k) := Lib.hid (by
        rw [Nat.div_eq_iff (by omega)]
        omega)
      have hDM : Hid (k * len1 + M = N) := Lib.hid (by omega)
      have HDD := Lib.hid hD
      obtain ⟨Z, z1, z2⟩ := zrow M (by omega)
      obtain ⟨Y, y1, y2⟩ := zrow D (by omega)
      have Z2 := Lib.hid z2
      have Y2 := Lib.hid y2
      clear hfit HD HI hD hM z2 y2
      go_wp2_with fail
      refine M2.out.mono ?_
      rintro e w2 ⟨rfl, h2⟩
      have H2 := Lib.hid h2
      clear h2 M2 HR
      have hf2 : (fs = [] ∧ k = 0) ∨ (0 < k ∧ ∃ f, fs = [f] ∧ f.nm = [102]) := by
        rcases H2.out.files with ⟨e1, e2⟩ | ⟨e1, A, c, b, e2, _⟩
        · exact .inl ⟨e2, e1⟩
        · exact .inr ⟨e1, _, e2, rfl⟩
      -- Append g
      have M3 := Lib.hid (room_g H2.out hDM.out (Z2.out w2))
      go_wp2_with fail
      refine M3.out.mono ?_
      rintro e w3 ⟨rfl, R3, rc3, A3, c3, b3, hb3, h3⟩
      have H3 := Lib.hid h3
      have HB3 := Lib.hid hb3
      have hus3 : Hid (usedOf (fs ++ [⟨[103], A3, c3, b3, 0⟩]) = N) := Lib.hid (by
        have e1 : usedOf (fs ++ [⟨[103], A3, c3, b3, 0⟩]) = usedOf fs + b3.length := by simp [usedOf]
        rw [e1, H2.out.used, hb3]
        exact hDM.out)
      clear h3 hb3 M3 H2 z1 Z2
      -- Append h
      have M4 : Hid (Calls Try.prog 9 #[.pointer (some ⟨p, 0, none⟩), .string ⟨#[104]⟩, .slice (some ⟨w3.heap.size, 0, none⟩) 1 1] (w3.alloc (.cells #[.int .u8 1] 5)) fun e w' => e = .returned (.int .i64 8) ∧ At w w' p N R3 rc3 (fs ++ [⟨[103], A3, c3, b3, 0⟩])) := Lib.hid (by
        have h4 := H3.out.on (below_box w3 (.cells #[.int .u8 1] 5))
        have hf : ∃ j, lookC (fs ++ [⟨[103], A3, c3, b3, 0⟩]) [104] = (j, 9) ∧ (fs ++ [(⟨[103], A3, c3, b3, 0⟩ : Fl)]).length < 200 := by
          rcases hf2 with ⟨rfl, _⟩ | ⟨_, f, rfl, hn⟩
          · exact ⟨1, rfl, by show 1 < 200; decide⟩
          · obtain ⟨nm, fA, fc, fb, fs⟩ := f
            change nm = [102] at hn
            subst hn
            exact ⟨2, rfl, by show 2 < 200; decide⟩
        obtain ⟨j, hf⟩ := hf
        refine (append_full [104] h4.disk (.inr hf) (by decide) (by rw [hus3.out]; omega)).mono ?_
        rintro e w' ⟨rfl, hb⟩
        exact ⟨rfl, h4.on hb⟩)
      go_wp2_with fail
      refine M4.out.mono ?_
      rintro e w4 ⟨rfl, h4⟩
      have H4 := Lib.hid h4
      clear h4 M4 H3
      -- Remove f
      by_cases hk0 : 0 < k
      · have M5 : Hid (Calls Try.prog 13 #[.pointer (some ⟨p, 0, none⟩), .string ⟨#[102]⟩] w4 fun e w' => e = .returned (.int .i64 0) ∧ At w w' p N R3 rc3 [⟨[103], A3, c3, b3, 0⟩]) := Lib.hid (by
          rcases hf2 with ⟨_, e0⟩ | ⟨_, f, rfl, hn⟩
          · omega
          · obtain ⟨nm, fA, fc, fb, fsu⟩ := f
            change nm = [102] at hn
            subst hn
            refine (remove_there [102] (k := 0) (f := ⟨[102], fA, fc, fb, fsu⟩) H4.out.disk rfl rfl).mono ?_
            rintro e w' ⟨rfl, hm⟩
            exact ⟨rfl, H4.out.moved hm⟩)
        have hki : (0 : Int) < (k : Int) := by omega
        go_wp2_with fail
        refine M5.out.mono ?_
        rintro e w5 ⟨rfl, h5⟩
        have H5 := Lib.hid h5
        clear h5 M5 H4 hf2 hus3
        have M6 : Hid (Calls Try.prog 9 #[.pointer (some ⟨p, 0, none⟩), .string ⟨#[104]⟩, .slice (some ⟨w5.heap.size, 0, none⟩) D D] (w5.alloc (.cells Y 5)) fun e w' => e = .returned (.int .i64 0) ∧ ∃ R rc fs', usedOf fs' = N ∧ At w w' p N R rc fs') := Lib.hid (by
          have h6 := H5.out.on (below_box w5 (.cells Y 5))
          refine (append_new [104] h6.disk rfl (by show 1 < 200; decide) (by decide) (Y2.out w5) (fun v hk => hk.brow (Y2.out w5) (fun x e => foot_new H5.out.disk x e)) (by show b3.length + 0 + D ≤ N; rw [HB3.out]; have := hDM.out; have := HDD.out; omega) h6.below.size).mono ?_
          rintro e w' ⟨rfl, R', rc', A', c', hm⟩
          refine ⟨rfl, R', rc', _, ?_, h6.moved hm⟩
          show b3.length + (([] ++ List.replicate D 0).length + 0) = N
          rw [HB3.out, List.nil_append, List.length_replicate]
          have := hDM.out
          have := HDD.out
          omega)
        go_wp2_with fail
        refine M6.out.mono ?_
        rintro e w6 ⟨rfl, R6, rc6, fs6, hu6, h6⟩
        have H6 := Lib.hid h6
        have HU6 := Lib.hid hu6
        clear h6 hu6 M6 H5 Y2 y1
        go_wp2_with fail
        refine (MT.out _).mono ?_
        rintro e w7 ⟨rfl, hb7⟩
        have H7 := Lib.hid (H6.out.on hb7)
        have M7 : Hid (Calls Try.prog 14 #[.pointer (some ⟨p, 0, none⟩)] w7 fun e w' => e = .returned (.int .i64 (N : Int)) ∧ Below w.heap.size w w') := Lib.hid (by
          have := used_any H7.out.disk
          rw [HU6.out] at this
          exact this.mono fun e w' ⟨he, hb⟩ => ⟨he, past H7.out.below hb⟩)
        have hq : (N : Int).tdiv (len1 : Int) = (k : Int) := by rw [← Int.ofNat_tdiv, hquo.out]
        have hwk : IntKind.i64.wrap (k : Int) = (k : Int) := by rw [IntKind.wrap_i64]; omega
        have hl0 : ¬ (len1 : Int) = 0 := by omega
        clear hb7 H6 HU6 MT
        go_wp2_with fail
        refine M7.out.mono ?_
        rintro e w8 ⟨rfl, hb8⟩
        have H8 := Lib.hid hb8
        clear hb8 M7 H7
        go_wp2
        go_ret
        exact ⟨rfl, H8.out⟩
      · have hk1 : k = 0 := by omega
        have M5 : Hid (Calls Try.prog 13 #[.pointer (some ⟨p, 0, none⟩), .string ⟨#[102]⟩] w4 fun e w' => e = .returned (.int .i64 9) ∧ w4 = w') := Lib.hid (by
          rcases hf2 with ⟨rfl, _⟩ | ⟨e0, _⟩
          · exact remove_none [102] H4.out.disk (by show (9 : Nat) ≠ 0; decide)
          · omega)
        have H5 : Hid (At w w4 p N R3 rc3 [⟨[103], A3, c3, b3, 0⟩]) := Lib.hid (by
          rcases hf2 with ⟨rfl, _⟩ | ⟨e0, _⟩
          · exact H4.out
          · omega)
        have hki : ¬ (0 : Int) < (k : Int) := by omega
        have HK := Lib.hid hk1
        clear hk1
        go_wp2_with fail
        refine M5.out.mono ?_
        rintro e w5 ⟨rfl, rfl⟩
        clear M5 H4 hf2 hus3
        have M6 : Hid (Calls Try.prog 9 #[.pointer (some ⟨p, 0, none⟩), .string ⟨#[104]⟩, .slice (some ⟨w4.heap.size, 0, none⟩) D D] (w4.alloc (.cells Y 5)) fun e w' => e = .returned (.int .i64 0) ∧ ∃ R rc fs', usedOf fs' = N ∧ At w w' p N R rc fs') := Lib.hid (by
          have h6 := H5.out.on (below_box w4 (.cells Y 5))
          refine (append_new [104] h6.disk rfl (by show 1 < 200; decide) (by decide) (Y2.out w4) (fun v hk => hk.brow (Y2.out w4) (fun x e => foot_new H5.out.disk x e)) (by show b3.length + 0 + D ≤ N; rw [HB3.out]; have := hDM.out; have := HDD.out; omega) h6.below.size).mono ?_
          rintro e w' ⟨rfl, R', rc', A', c', hm⟩
          refine ⟨rfl, R', rc', _, ?_, h6.moved hm⟩
          show b3.length + (([] ++ List.replicate D 0).length + 0) = N
          rw [HB3.out, List.nil_append, List.length_replicate]
          have := hDM.out
          have := HDD.out
          omega)
        go_wp2_with fail
        refine M6.out.mono ?_
        rintro e w6 ⟨rfl, R6, rc6, fs6, hu6, h6⟩
        have H6 := Lib.hid h6
        have HU6 := Lib.hid hu6
        clear h6 hu6 M6 H5 Y2 y1
        go_wp2_with fail
        refine (MT.out _).mono ?_
        rintro e w7 ⟨rfl, hb7⟩
        have H7 := Lib.hid (H6.out.on hb7)
        have M7 : Hid (Calls Try.prog 14 #[.pointer (some ⟨p, 0, none⟩)] w7 fun e w' => e = .returned (.int .i64 (N : Int)) ∧ Below w.heap.size w w') := Lib.hid (by
          have := used_any H7.out.disk
          rw [HU6.out] at this
          exact this.mono fun e w' ⟨he, hb⟩ => ⟨he, past H7.out.below hb⟩)
        have hq : (N : Int).tdiv (len1 : Int) = (k : Int) := by rw [← Int.ofNat_tdiv, hquo.out]
        have hwk : IntKind.i64.wrap (k : Int) = (k : Int) := by rw [IntKind.wrap_i64]; omega
        have hl0 : ¬ (len1 : Int) = 0 := by omega
        clear hb7 H6 HU6 MT
        go_wp2_with fail
        refine M7.out.mono ?_
        rintro e w8 ⟨rfl, hb8⟩
        have H8 := Lib.hid hb8
        clear hb8 M7 H7
        go_wp2
        go_ret
        exact ⟨rfl, H8.out⟩
end Go.Proofs.Ytofjealjecfkiaa.diskRoom
