/-
  VaryZigs returns true at every number of either sign and every number without one, and its arguments read as they did. No conditions.
-/
import Derived.Test.YtimopggllnfibaaRows
import Derived.Test.YtimopggllnfibaaTold
import Derived.WalkKit
import Derived.ProofKit
import Derived.OpenShut
import Derived.ShutString
namespace Go.Proofs.Ytimopggllnfibaa.varyZigs
open Go.ChangeShapes Go.WideShapes Go.ChangeAt Go.RowKit
open Go.ChangeMaps (open_string shut_string)
set_option linter.unusedVariables false      -- a walk need not use every 'w<i>' (that an integer argument fits its kind)

theorem own : ownKnob Try.prog.godebug = none := by kernel_rfl

theorem range_i64 {a : Int} (h : (Lit.int .i64 a).wf = true) : -9223372036854775808 ≤ a ∧ a ≤ 9223372036854775807 := by
  simpa [Lit.wf, IntKind.min, IntKind.max, IntKind.bits, IntKind.signed] using h
theorem range_u64 {a : Int} (h : (Lit.int .u64 a).wf = true) : 0 ≤ a ∧ a ≤ 18446744073709551615 := by
  simpa [Lit.wf, IntKind.min, IntKind.max, IntKind.bits, IntKind.signed] using h

theorem zig_to (m z : Int) (w : World) (h0 : -9223372036854775808 ≤ m) (h1 : m ≤ 9223372036854775807) (h : zig m = z) :
    Calls Try.prog 14 #[.int .i64 m] w fun e w' => e = .returned (.int .u64 z) ∧ w = w' := h ▸ zig_any m w h0 h1
theorem zag_to (n m : Int) (w : World) (h0 : 0 ≤ n) (h1 : n ≤ 18446744073709551615) (h : zag n = m) :
    Calls Try.prog 16 #[.int .u64 n] w fun e w' => e = .returned (.int .i64 m) ∧ w = w' := h ▸ zag_any n w h0 h1

set_option maxRecDepth 100000 in
theorem walk (a0 : Int) (a1 : Int) (w0 : (Lit.int .i64 a0).wf = true) (w1 : (Lit.int .u64 a1).wf = true) (w : World) :
    Calls Try.prog 7 #[.int .i64 a0, .int .u64 a1] w fun e w' => e = .returned (.bool true) ∧ Below w.heap.size w w' := by
  obtain ⟨l0, u0⟩ := range_i64 w0
  obtain ⟨l1, u1⟩ := range_u64 w1
  clear w0 w1
  obtain ⟨z, hz⟩ : ∃ z, zig a0 = z := ⟨_, rfl⟩
  obtain ⟨lz, uz⟩ : 0 ≤ z ∧ z ≤ 18446744073709551615 := hz ▸ zig_range a0 l0 u0
  have hb : zag z = a0 := hz ▸ zag_zig a0
  obtain ⟨y, hy⟩ : ∃ y, zag a1 = y := ⟨_, rfl⟩
  obtain ⟨ly, uy⟩ : -9223372036854775808 ≤ y ∧ y ≤ 9223372036854775807 := hy ▸ zag_range a1 l1 u1
  have hc : zig y = a1 := hy ▸ zig_zag a1 l1
  have had := and1 z lz uz
  by_cases hneg : a0 < 0
  · have hodd : (bits BinOp.and IntKind.u64 z 1 == 1) = true := by
      rw [had, ← hz, zig, if_neg (by omega)]; simp; omega
    have HZ := Lib.hid hz
    have HB := Lib.hid hb
    have HY := Lib.hid hy
    have HC := Lib.hid hc
    clear hz hb hy hc had
    go_enter Try.func7, Try.ntmps7
    go_wp2_with fail
    refine (zig_to a0 z _ l0 u0 HZ.out).mono ?_
    rintro e w2 ⟨rfl, rfl⟩
    go_wp2_with fail
    refine (told_any _).mono ?_
    rintro e w2 ⟨rfl, hbel⟩
    go_wp2_with fail
    refine (zag_to z a0 _ lz uz HB.out).mono ?_
    rintro e w3 ⟨rfl, rfl⟩
    go_wp2_with fail
    refine (zag_to a1 y _ l1 u1 HY.out).mono ?_
    rintro e w3 ⟨rfl, rfl⟩
    go_wp2_with fail
    refine (zig_to y a1 _ ly uy HC.out).mono ?_
    rintro e w3 ⟨rfl, rfl⟩
    go_wp2
    go_ret
    exact ⟨rfl, hbel⟩
  · have hev : (bits BinOp.and IntKind.u64 z 1 == 1) = false := by
      rw [had, ← hz, zig, if_pos (by omega)]; simp
    have hdn : decide (a0 < 0) = false := by simp; omega
    by_cases htop : a0 = 9223372036854775807
    · have ht : (a0 == 9223372036854775807) = true := by simp [htop]
      have HZ := Lib.hid hz
      have HB := Lib.hid hb
      have HY := Lib.hid hy
      have HC := Lib.hid hc
      clear hz hb hy hc had htop
      go_enter Try.func7, Try.ntmps7
      go_wp2_with fail
      refine (zig_to a0 z _ l0 u0 HZ.out).mono ?_
      rintro e w2 ⟨rfl, rfl⟩
      go_wp2_with fail
      refine (told_any _).mono ?_
      rintro e w2 ⟨rfl, hbel⟩
      go_wp2_with fail
      refine (zag_to z a0 _ lz uz HB.out).mono ?_
      rintro e w3 ⟨rfl, rfl⟩
      go_wp2_with fail
      refine (zag_to a1 y _ l1 u1 HY.out).mono ?_
      rintro e w3 ⟨rfl, rfl⟩
      go_wp2_with fail
      refine (zig_to y a1 _ ly uy HC.out).mono ?_
      rintro e w3 ⟨rfl, rfl⟩
      go_wp2
      go_ret
      exact ⟨rfl, hbel⟩
    · have ht : (a0 == 9223372036854775807) = false := by simp [htop]
      have hz2 : zig (a0 + 1) = z + 2 := by rw [← hz, zig, zig, if_pos (by omega), if_pos (by omega)]; omega
      have uz2 : z + 2 ≤ 18446744073709551615 := hz2 ▸ (zig_range (a0 + 1) (by omega) (by omega)).2
      have u01 : a0 + 1 ≤ 9223372036854775807 := by omega
      have HZ := Lib.hid hz
      have HB := Lib.hid hb
      have HY := Lib.hid hy
      have HC := Lib.hid hc
      have HZ2 := Lib.hid hz2
      clear hz hb hy hc had htop hz2
      go_enter Try.func7, Try.ntmps7
      go_wp2_with fail
      refine (zig_to a0 z _ l0 u0 HZ.out).mono ?_
      rintro e w2 ⟨rfl, rfl⟩
      go_wp2_with fail
      refine (told_any _).mono ?_
      rintro e w2 ⟨rfl, hbel⟩
      go_wp2_with fail
      refine (zag_to z a0 _ lz uz HB.out).mono ?_
      rintro e w3 ⟨rfl, rfl⟩
      go_wp2_with fail
      refine (zag_to a1 y _ l1 u1 HY.out).mono ?_
      rintro e w3 ⟨rfl, rfl⟩
      go_wp2_with fail
      refine (zig_to y a1 _ ly uy HC.out).mono ?_
      rintro e w3 ⟨rfl, rfl⟩
      go_wp2_with fail
      refine (zig_to (a0 + 1) (z + 2) _ (by omega) u01 HZ2.out).mono ?_
      rintro e w3 ⟨rfl, rfl⟩
      go_wp2
      go_ret
      exact ⟨rfl, hbel⟩

/-! ### THE ROW's STEP: WRITTEN OUT: LEAVE IT -/
set_option maxRecDepth 100000 in
theorem lifted (os : Os) (started : os.Started) (H : Type) (enc : TypeId × Value → H) :
    ReturnsInHanded {} Try.checked os 7 .any (Rows.varyZigsSpec.pre6 enc Try.prog Try.f7 Rows.varyZigsRow.domain false) (Rows.varyZigsSpec.post enc Try.prog Try.f7 false true false false) := by
  refine returnsInHanded_of_change (C := Try.checked) own started (by kernel_rfl) Try.func7
    (ChangeSpec.witness6 (enc := enc) (C := Try.checked) false ⟨#[], #[.int .i64 0, .int .u64 0], []⟩ 8 (by kernel_rfl) (by kernel_rfl) (by kernel_rfl) (by kernel_rfl)) ?_
  intro W base args ds gs before hval0 hW hcnd _
  have hval : ∀ (j : Nat) t v, Try.f7.params[j]? = some t → args[j]? = some v → Value.okWide Try.prog W .any base t v := hval0
  have hW' := hW
  obtain ⟨p, q, hA0, hV, rfl, hfz, hnd⟩ := hW
  have hA : DataW.TrodAll enc Try.prog W 0 (fun _ => true) true Try.f7.params.toList args.toList ds p := hA0
  rw [Try.params7] at hA hval
  obtain ⟨v0, vs0, d0, ds0, p0, q0, hargs, rfl, rfl, h0, r0⟩ := trodAll_cons hA
  obtain ⟨v1, vs1, d1, ds1, p1, q1, rfl, rfl, rfl, h1, r1⟩ := trodAll_cons r0
  obtain ⟨rfl, rfl, rfl⟩ := trodAll_nil r1
  obtain rfl : args = #[v0, v1] := by cases args; simp_all
  obtain ⟨rfl, rfl⟩ := trodVars_none hV
  obtain ⟨a0, rfl, rfl, rfl, w0⟩ := open_int Try.underlying2 (hval 0 2 v0 rfl rfl) h0
  obtain ⟨a1, rfl, rfl, rfl, w1⟩ := open_int Try.underlying22 (hval 1 22 v1 rfl rfl) h1
  clear hA0 hval0
  simp only [List.append_nil] at hW'
  refine (walk a0 a1 w0 w1 W).mono fun e W' ⟨he, bel⟩ => ?_
  subst he
  exact ⟨_, rfl, _, _, _, [], _, [], hW', trodAll_mk1 (shut_bool Try.underlying4 _), (trodAll_cons_mk (shut_int Try.underlying2 w0) (trodAll_cons_mk (shut_int Try.underlying22 w1) trodAll_mk0)), rfl, bel.frame _, fun h => by cases h⟩

theorem over : Rows.varyZigsRow.holds Try.pinned (OpenSpec.ofChange Rows.varyZigsSpec) :=
  OpenClaim.holds_of_wide 7 Try.f7 rfl rfl rfl rfl rfl rfl rfl ⟨rfl, rfl, rfl, rfl, rfl⟩ rfl rfl rfl rfl rfl (by kernel_rfl) Try.func7 (by kernel_rfl)
    (of_decide_eq_true (by kernel_rfl)) (by unfold Func.isWrapper; first | (rw [if_pos (by decide +kernel)]; kernel_rfl) | (rw [if_neg (by decide +kernel)]; exact ⟨rfl, rfl⟩))
    (fun os started H enc _ => lifted os started H enc)

/-- ████ THE STATEMENT ████ -/
theorem proved : Rows.VaryZigsSaid :=
  over
#print axioms proved
end Go.Proofs.Ytimopggllnfibaa.varyZigs
