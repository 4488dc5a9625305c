/-
  told: it returns true; nothing that was there is written.
-/
import Derived.Test.YtofjealjecfkiaaFRenW
import Derived.Lib.SlBytesConst
set_option maxRecDepth 100000
namespace Go.Proofs.Ytofjealjecfkiaa
open Go.RowKit
attribute [local go_sem ↓] Go.wp_at_zero Go.wp_at_succ
set_option linter.unusedVariables false

/-- A disk of the call's own, that lies past w0; what lay there is as it was. -/
structure At (w0 w : World) (p room : Nat) (R : Option Addr) (rc : Nat) (fs : List Fl) : Prop where
  disk : DiskAt w w0.heap.size p room R rc fs
  below : Below w0.heap.size w0 w
section
variable {w0 w w' : World} {p room rc rc' : Nat} {R R' : Option Addr} {fs fs' : List Fl}
theorem At.moved (h : At w0 w p room R rc fs) (m : Moved w w' w0.heap.size p room R fs R' rc' fs') : At w0 w' p room R' rc' fs' :=
  ⟨m.disk, h.below.trans (m.kept.below h.below.size (fun q hq => (h.disk.lt hq).1))⟩
theorem At.on (h : At w0 w p room R rc fs) (hb : Below w.heap.size w w') : At w0 w' p room R rc fs := ⟨h.disk.below hb, past h.below hb⟩
theorem At.step (h : At w0 w p room R rc fs) (m : Stepped w w' w0.heap.size p room R rc fs') : At w0 w' p room R rc fs' :=
  ⟨m.disk, h.below.trans (m.kept.below h.below.size (fun q hq => (h.disk.lt (.inr (.inl hq))).1))⟩
theorem at_new (room : Nat) (w : World) (h : room ≤ 1048576) : Calls Try.prog 7 #[.int .i64 (room : Int)] w fun e w' => ∃ p, e = .returned (.pointer (some ⟨p, 0, none⟩)) ∧ At w w' p room none 0 [] :=
  (new_some room w h (Nat.le_refl _)).mono fun e w' ⟨he, hd, hb, _⟩ => ⟨_, he, hd, hb⟩

/-- A literal row of bytes, as it lies behind the conversion. -/
theorem lit_brow (W : World) (bs : List Nat) (n : Nat) (hn : bs.length = n) (hb : ∀ c ∈ bs, c < 256) (hm : n ≤ maxLen) (fr : Nat × Nat) : BRow (W.alloc (.cells (bytesV bs).toArray 5 fr)) (some ⟨W.heap.size, 0, none⟩) n n bs := by
  refine ⟨⟨hb, fun hp => ⟨_, rfl, fun j hj => ?_⟩⟩, hn, Nat.le_refl _, hm, fun e => by cases e⟩
  rw [addr0, cell_of_row _ _ j _ 5 fr (heap_alloc_new W _), List.getElem?_toArray, bytesV_get bs j hj]
theorem foot_new (h : DiskAt w w0.heap.size p room R rc fs) : ∀ x, some (⟨w.heap.size, 0, none⟩ : Addr) = some x → ¬ foot p R fs x.block := by
  intro x e hq
  injection e with e
  subst e
  have := (h.lt hq).2
  exact Nat.lt_irrefl _ this
end

set_option maxHeartbeats 4000000 in
theorem told_any (w : World) : Calls Try.prog 8 #[] w fun e w' => e = .returned (.bool true) ∧ Below w.heap.size w w' := by
  have M1 := Lib.hid (at_new 10 w (by decide))
  have M1' : Hid (Calls Try.prog 7 #[.int .i64 10] w fun e w' => ∃ p, e = .returned (.pointer (some ⟨p, 0, none⟩)) ∧ At w w' p 10 none 0 []) := M1
  clear M1
  go_enter Try.func8, Try.ntmps8
  go_wp2_with fail
  refine M1'.out.mono ?_
  rintro e w1 ⟨p, rfl, h1⟩
  have H1 := Lib.hid h1
  clear h1 M1'
  -- "abc"
  have cv := Lib.run_convert_bytes_const (P := Try.prog) w1 22 5 #[.int .u8 97, .int .u8 98, .int .u8 99] 3 3 Try.underlying22 Try.underlying5
  have M2 : Hid (Calls Try.prog 9 #[.pointer (some ⟨p, 0, none⟩), .string ⟨#[97]⟩, .slice (some ⟨w1.heap.size, 0, none⟩) 3 3] (w1.alloc (.cells #[.int .u8 97, .int .u8 98, .int .u8 99] 5 (3, 4))) fun e w' => e = .returned (.int .i64 0) ∧
      ∃ R rc A c, At w w' p 10 R rc [⟨[97], A, c, [97, 98, 99], 0⟩]) := Lib.hid (by
    have hb := below_box w1 (.cells (bytesV [97, 98, 99]).toArray 5 (3, 4))
    have h2 := H1.out.on hb
    refine (append_new [97] (m := 3) (c := 3) (bs := [97, 98, 99]) h2.disk rfl (by decide) (by decide) (lit_brow w1 [97, 98, 99] 3 rfl (by decide) (by decide) (3, 4)) (fun v hk => hk.brow (lit_brow w1 [97, 98, 99] 3 rfl (by decide) (by decide) (3, 4)) (foot_new H1.out.disk)) (by decide) h2.below.size).mono ?_
    · rintro e w' ⟨rfl, R', rc', A', c', hm⟩
      exact ⟨rfl, R', rc', A', c', h2.moved hm⟩)
  go_wp2_with fail
  refine M2.out.mono ?_
  rintro e w2 ⟨rfl, R2, rc2, A2, c2, h2⟩
  have H2 := Lib.hid h2
  clear h2 M2 H1 cv
  -- Sync
  have M3 : Hid (Calls Try.prog 10 #[.pointer (some ⟨p, 0, none⟩), .string ⟨#[97]⟩] w2 fun e w' => e = .returned (.int .i64 0) ∧ At w w' p 10 R2 rc2 [⟨[97], A2, c2, [97, 98, 99], 3⟩]) := Lib.hid
    ((sync_there [97] (k := 0) (f := ⟨[97], A2, c2, [97, 98, 99], 0⟩) H2.out.disk rfl rfl).mono fun e w' ⟨he, hs⟩ => ⟨he, H2.out.step hs⟩)
  go_wp2_with fail
  refine M3.out.mono ?_
  rintro e w3 ⟨rfl, h3⟩
  have H3 := Lib.hid h3
  clear h3 M3 H2
  -- "def"
  have cv := Lib.run_convert_bytes_const (P := Try.prog) w3 22 5 #[.int .u8 100, .int .u8 101, .int .u8 102] 3 3 Try.underlying22 Try.underlying5
  have M4 : Hid (Calls Try.prog 9 #[.pointer (some ⟨p, 0, none⟩), .string ⟨#[97]⟩, .slice (some ⟨w3.heap.size, 0, none⟩) 3 3] (w3.alloc (.cells #[.int .u8 100, .int .u8 101, .int .u8 102] 5 (3, 4))) fun e w' => e = .returned (.int .i64 0) ∧
      ∃ A c, At w w' p 10 R2 rc2 [⟨[97], A, c, [97, 98, 99, 100, 101, 102], 3⟩]) := Lib.hid (by
    have h4 := H3.out.on (below_box w3 (.cells (bytesV [100, 101, 102]).toArray 5 (3, 4)))
    refine (append_there [97] (m := 3) (c := 3) (k := 0) (bs := [100, 101, 102]) (f := ⟨[97], A2, c2, [97, 98, 99], 3⟩) h4.disk rfl rfl (lit_brow w3 [100, 101, 102] 3 rfl (by decide) (by decide) (3, 4)) (by show 3 + 3 ≤ 10; decide) h4.below.size).mono ?_
    rintro e w' ⟨rfl, A', c', hm⟩
    exact ⟨rfl, A', c', h4.moved hm⟩)
  go_wp2_with fail
  refine M4.out.mono ?_
  rintro e w4 ⟨rfl, A4, c4, h4⟩
  have H4 := Lib.hid h4
  clear h4 M4 H3 cv
  -- "12345"
  have cv := Lib.run_convert_bytes_const (P := Try.prog) w4 22 5 #[.int .u8 49, .int .u8 50, .int .u8 51, .int .u8 52, .int .u8 53] 5 5 Try.underlying22 Try.underlying5
  have M5 : Hid (Calls Try.prog 9 #[.pointer (some ⟨p, 0, none⟩), .string ⟨#[98]⟩, .slice (some ⟨w4.heap.size, 0, none⟩) 5 5] (w4.alloc (.cells #[.int .u8 49, .int .u8 50, .int .u8 51, .int .u8 52, .int .u8 53] 5 (5, 6))) fun e w' => e = .returned (.int .i64 8) ∧
      At w w' p 10 R2 rc2 [⟨[97], A4, c4, [97, 98, 99, 100, 101, 102], 3⟩]) := Lib.hid (by
    have h5 := H4.out.on (below_box w4 (.cells (bytesV [49, 50, 51, 52, 53]).toArray 5 (5, 6)))
    refine (append_full [98] (m := 5) (c := 5) (k := 1) h5.disk (.inr ⟨rfl, (by show 1 < 200; decide)⟩) (by decide) (by show 10 < 6 + 5; decide)).mono ?_
    rintro e w' ⟨rfl, hb⟩
    exact ⟨rfl, h5.on hb⟩)
  go_wp2_with fail
  refine M5.out.mono ?_
  rintro e w5 ⟨rfl, h5⟩
  have H5 := Lib.hid h5
  clear h5 M5 H4 cv
  -- Rename
  have M6 : Hid (Calls Try.prog 16 #[.pointer (some ⟨p, 0, none⟩), .string ⟨#[97]⟩, .string ⟨#[120, 46, 49]⟩] w5 fun e w' => e = .returned (.int .i64 0) ∧ ∃ R rc, At w w' p 10 R rc [⟨[120, 46, 49], A4, c4, [97, 98, 99, 100, 101, 102], 3⟩]) := Lib.hid
    ((rename_end [97] [120, 46, 49] H5.out.disk (by decide) (by decide) (by decide) (k := 0) (f := ⟨[97], A4, c4, [97, 98, 99, 100, 101, 102], 3⟩) rfl rfl rfl H5.out.below.size).mono fun e w' ⟨he, R', rc', hm⟩ => ⟨he, R', rc', H5.out.moved hm⟩)
  go_wp2_with fail
  refine M6.out.mono ?_
  rintro e w6 ⟨rfl, R6, rc6, h6⟩
  have H6 := Lib.hid h6
  clear h6 M6 H5
  -- Crash
  have M7 : Hid (Calls Try.prog 11 #[.pointer (some ⟨p, 0, none⟩), .slice (some ⟨w6.heap.size, 0, none⟩) 1 1] (w6.alloc (.cells #[.int .i64 2] 3)) fun e w' => e = .returned (.tuple #[]) ∧ At w w' p 10 R6 rc6 [⟨[120, 46, 49], A4, c4, [97, 98, 99, 100, 101], 5⟩]) := Lib.hid (by
    have h7 := H6.out.on (below_box w6 (.cells #[.int .i64 2] 3))
    refine (crash_any (ks := [2]) h7.disk ⟨rfl, Nat.le_refl _, by decide, fun _ => ⟨_, 0, rfl, fun j hj => ?_⟩, by decide⟩ ?_).mono ?_
    · have hj' : j < 1 := hj
      obtain rfl : j = 0 := by omega
      rw [cell_of_row _ _ _ _ 3 (0, 0) (heap_alloc_new w6 _)]
      rfl
    · intro x e hq
      exact foot_new H6.out.disk x e (.inr (.inl hq))
    · rintro e w' ⟨rfl, hs⟩
      exact ⟨rfl, h7.step hs⟩)
  go_wp2_with fail
  refine M7.out.mono ?_
  rintro e w7 ⟨rfl, h7⟩
  have H7 := Lib.hid h7
  clear h7 M7 H6
  -- Read
  have M8 : Hid (Calls Try.prog 12 #[.pointer (some ⟨p, 0, none⟩), .string ⟨#[120, 46, 49]⟩] w7 fun e w' => ∃ A c, e = .returned (.tuple #[.slice A 5 c, .int .i64 0]) ∧ BRow w' A 5 c [97, 98, 99, 100, 101] ∧ At w w' p 10 R6 rc6 [⟨[120, 46, 49], A4, c4, [97, 98, 99, 100, 101], 5⟩]) := Lib.hid
    ((read_there [120, 46, 49] (f := ⟨[120, 46, 49], A4, c4, [97, 98, 99, 100, 101], 5⟩) H7.out.disk rfl rfl).mono fun e w' ⟨A, c, he, ho⟩ => ⟨A, c, he, ho.row, H7.out.on ho.below⟩)
  go_wp2_with fail
  refine M8.out.mono ?_
  rintro e w8 ⟨A8, c8, rfl, hr8, h8⟩
  have H8 := Lib.hid h8
  have HR8 := Lib.hid hr8
  clear h8 hr8 M8 H7
  have M9 : Hid (Calls Try.prog 12 #[.pointer (some ⟨p, 0, none⟩), .string ⟨#[97]⟩] w8 fun e w' => e = .returned (.tuple #[.slice none 0 0, .int .i64 9]) ∧ w8 = w') := Lib.hid (read_none [97] H8.out.disk (by show (9 : Nat) ≠ 0; decide))
  go_wp2_with fail
  refine M9.out.mono ?_
  rintro e w9 ⟨rfl, rfl⟩
  clear M9
  have M10 : Hid (Calls Try.prog 9 #[.pointer (some ⟨p, 0, none⟩), .string ⟨#[65]⟩, .slice none 0 0] w8 fun e w' => e = .returned (.int .i64 1) ∧ w8 = w') := Lib.hid (append_bad [65] H8.out.disk rfl)
  go_wp2_with fail
  refine M10.out.mono ?_
  rintro e w9 ⟨rfl, rfl⟩
  clear M10
  have M11 : Hid (Calls Try.prog 15 #[.pointer (some ⟨p, 0, none⟩), .string ⟨#[120, 46, 49]⟩, .int .i64 9] w8 fun e w' => e = .returned (.int .i64 5) ∧ w8 = w') := Lib.hid (cut_range [120, 46, 49] 9 (k := 0) (f := ⟨[120, 46, 49], A4, c4, [97, 98, 99, 100, 101], 5⟩) H8.out.disk rfl rfl (.inr (by show (5 : Int) < 9; decide)))
  go_wp2_with fail
  refine M11.out.mono ?_
  rintro e w9 ⟨rfl, rfl⟩
  clear M11
  -- the answer
  have cvx := conv_bytes HR8.out.bytes 5 c8 rfl
  obtain ⟨E, hE⟩ : ∃ E, E = strB [97, 98, 99, 100, 101] := ⟨_, rfl⟩
  have hEq : (E.toList == [97, 98, 99, 100, 101]) = true := by rw [hE]; decide +kernel
  rw [← hE] at cvx
  have M12 : Hid (Calls Try.prog 14 #[.pointer (some ⟨p, 0, none⟩)] w8 fun e w' => e = .returned (.int .i64 5) ∧ Below w8.heap.size w8 w') := Lib.hid (used_any H8.out.disk)
  clear hE HR8
  go_wp2_with fail
  refine M12.out.mono ?_
  rintro e w9 ⟨rfl, hb9⟩
  have H9 := Lib.hid (H8.out.on hb9)
  clear M12 H8 cvx hb9 hEq
  have M13 : Hid (Calls Try.prog 17 #[.pointer (some ⟨p, 0, none⟩)] w9 fun e w' => ∃ g c, e = .returned (.slice (some ⟨g, 0, none⟩) 1 c) ∧ Below w9.heap.size w9 w') := Lib.hid ((names_any H9.out.disk).mono fun e w' ⟨v, he, ho, hb⟩ => by
    obtain ⟨g, c, rfl, _, _⟩ := ho.form (by show 0 < 1; decide)
    exact ⟨g, c, he, hb⟩)
  go_wp2_with fail
  refine M13.out.mono ?_
  rintro e w10 ⟨g, c, rfl, hb10⟩
  have H10 := Lib.hid (H9.out.on hb10)
  clear M13 H9 hb10
  have M14 := Lib.hid (new_none (-1) w10 (.inl (by decide)))
  go_wp2_with fail
  refine M14.out.mono ?_
  rintro e w11 ⟨rfl, rfl⟩
  have M15 : Hid (Calls Try.prog 10 #[.pointer none, .string ⟨#[97]⟩] w10 fun e w' => e = .returned (.int .i64 10) ∧ w10 = w') := Lib.hid (sync_nil [97] w10)
  go_wp2_with fail
  refine M15.out.mono ?_
  rintro e w11 ⟨rfl, rfl⟩
  have M16 := Lib.hid (names_nil w10)
  go_wp2_with fail
  refine M16.out.mono ?_
  rintro e w11 ⟨rfl, rfl⟩
  clear M14 M15 M16
  go_wp2
  go_ret
  exact ⟨rfl, H10.out.below⟩
end Go.Proofs.Ytofjealjecfkiaa
