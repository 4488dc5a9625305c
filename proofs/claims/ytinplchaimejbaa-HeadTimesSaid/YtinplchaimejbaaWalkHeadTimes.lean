/-
  The walk of HeadTimes: it returns true, and writes nothing that was there.
-/
import Derived.Test.YtinplchaimejbaaHArgs
namespace Go.Proofs.Ytinplchaimejbaa.headTimes
open Go.RowKit
attribute [local go_sem ↓] Go.wp_at_zero Go.wp_at_succ
set_option linter.unusedVariables false

theorem may_two {x : Int} (h0 : 0 ≤ x) (h1 : x < 1000000) : Hd.may ⟨0, [(x, 1), (x + 1, 2)]⟩ := by
  refine ⟨Int.le_refl 0, (by decide : (0 : Int) ≤ 1099511627776), (rise_pair _).2 ⟨fun s hs => ?_, ?_⟩, by simp, fun s hs => ?_⟩
  · simp only [List.mem_cons, List.not_mem_nil, or_false] at hs
    unfold Ag.begin_
    rcases hs with rfl | rfl <;> (simp only; omega)
  · refine List.Pairwise.cons (fun y hy => ?_) (List.Pairwise.cons (fun y hy => by simp at hy) List.Pairwise.nil)
    simp only [List.mem_singleton] at hy
    subst hy
    simp only
    omega
  · simp only [List.mem_cons, List.not_mem_nil, or_false] at hs
    rcases hs with rfl | rfl <;> (simp only; omega)
theorem row_pair (w : World) {t v t' v' : Int} (h : In64 t ∧ In64 v ∧ In64 t' ∧ In64 v') : Row (w.alloc (.cells #[.int .i64 t, .int .i64 v, .int .i64 t', .int .i64 v'] 30)) (some ⟨w.heap.size, 0, none⟩) 2 [(t, v), (t', v')] := by
  refine ⟨⟨fun s hs => ?_, fun _ => ⟨_, _, rfl, fun j hj => ?_⟩⟩, Nat.le_refl _, by unfold maxLen; omega, fun e => by cases e⟩
  · simp only [List.mem_cons, List.not_mem_nil, or_false] at hs
    rcases hs with rfl | rfl
    · exact ⟨h.1, h.2.1⟩
    · exact ⟨h.2.2.1, h.2.2.2⟩
  · match j, hj with
    | 0, _ => simp
    | 1, _ => simp
theorem may_nil {x : Int} (h0 : 0 ≤ x) (h1 : x < 1000000) : Hd.may ⟨x, []⟩ :=
  ⟨h0, by simp only; omega, fun i hi => by simp at hi, by simp, fun s hs => by simp at hs⟩

set_option maxRecDepth 100000 in
set_option maxHeartbeats 1000000 in
theorem walk (a0 : Int) (a1 : Int) (a2 : Int) (w0 : (Lit.int .i64 a0).wf = true) (w1 : (Lit.int .i64 a1).wf = true) (w2 : (Lit.int .i64 a2).wf = true) (w : World) :
    Calls Try.prog 6 #[.int .i64 a0, .int .i64 a1, .int .i64 a2] w fun e w' => e = .returned (.bool true) ∧ Below w.heap.size w w' := by
  obtain ⟨x, hx, hx0, hx1⟩ := wrap_u64_rem (a := a0) 1000000 (by decide)
  obtain ⟨y, hy, hy0, hy1⟩ := wrap_u64_rem (a := a1) 200 (by decide)
  obtain ⟨z, hz, hz0, hz1⟩ := wrap_u64_rem (a := a2) 5 (by decide)
  obtain ⟨U, hU⟩ : ∃ U, IntKind.u64.wrap a0 = U := ⟨_, rfl⟩
  obtain ⟨V, hV⟩ : ∃ V, IntKind.u64.wrap a1 = V := ⟨_, rfl⟩
  obtain ⟨Z, hZ⟩ : ∃ Z, IntKind.u64.wrap a2 = Z := ⟨_, rfl⟩
  rw [hU] at hx
  rw [hV] at hy
  rw [hZ] at hz
  have MD := Lib.hid (fun (w : World) (A : Option Addr) (cap : Nat) (h : Row w A cap [(x, 1), (x + 1, 2)]) (now : Int) => due_some (S := 0) (now := now) (t0 := x) (n := 2) (p := ⟨60, 600, 6000, 0, 8, 1 + y⟩) h rfl (by decide) rfl (may_two hx0 hx1) (pol_may (by decide) (by decide) (by omega) (by omega)))
  have MN := Lib.hid (fun (w : World) (now : Int) => due_none (S := x) (now := now) (p := ⟨60, 600, 6000, 0, 8, 1 + y⟩) (Row.none w) (may_nil hx0 hx1) (pol_may (by decide) (by decide) (by omega) (by omega)))
  unfold Pol.val at MD MN
  simp only at MD MN
  clear w0 w1 w2
  have k1 : IntKind.i64.wrap x = x := by rw [IntKind.wrap_i64]; omega
  have k2 : IntKind.i64.wrap y = y := by rw [IntKind.wrap_i64]; omega
  have k3 : IntKind.i64.wrap z = z := by rw [IntKind.wrap_i64]; omega
  have k4 : IntKind.i64.wrap (1 + y) = 1 + y := by rw [IntKind.wrap_i64]; omega
  have k5 : IntKind.i64.wrap (x + (1 + y)) = x + (1 + y) := by rw [IntKind.wrap_i64]; omega
  have k6 : IntKind.i64.wrap (x + (1 + y) + z) = x + (1 + y) + z := by rw [IntKind.wrap_i64]; omega
  have k7 : IntKind.i64.wrap (x + (1 + y) + z - 2) = x + (1 + y) + z - 2 := by rw [IntKind.wrap_i64]; omega
  have k8 : IntKind.i64.wrap (x + 1) = x + 1 := by rw [IntKind.wrap_i64]; omega
  go_enter Try.func6, Try.ntmps6
  go_wp2_with fail
  refine (default_any _).mono ?_
  rintro e w2 ⟨rfl, hb⟩
  have HB2 := Lib.hid hb
  clear hb
  unfold Pol.val Pol.dflt
  simp only
  go_upto_region 6 with fail
  obtain ⟨w5, hw5⟩ : ∃ w5, w5 = (((w2.alloc (.cells #[.int .i64 60, .int .i64 600, .int .i64 6000, .int .i64 0, .int .i64 8, .int .i64 (1 + y)] 40)).alloc (.cells #[.int .i64 x, .int .i64 1, .int .i64 (x + 1), .int .i64 2] 30)).alloc (.cells #[.int .i64 0, .slice (some ⟨w2.heap.size + 1, 0, none⟩) 2 2] 25)) := ⟨_, rfl⟩
  have hz1 : (w2.alloc (.cells #[.int .i64 60, .int .i64 600, .int .i64 6000, .int .i64 0, .int .i64 8, .int .i64 (1 + y)] 40)).heap.size = w2.heap.size + 1 := by simp
  have hz2 : ((w2.alloc (.cells #[.int .i64 60, .int .i64 600, .int .i64 6000, .int .i64 0, .int .i64 8, .int .i64 (1 + y)] 40)).alloc (.cells #[.int .i64 x, .int .i64 1, .int .i64 (x + 1), .int .i64 2] 30)).heap.size = w2.heap.size + 1 + 1 := by simp
  have HP5 : Hid (PVar w5 w2.heap.size 60 600 6000 0 8 (1 + y)) := Lib.hid (by rw [hw5]; exact ((PVar.new w2 60 600 6000 0 8 (1 + y) 40).below (below_box _ _)).below (below_box _ _))
  have HR5 : Hid (Row w5 (some ⟨w2.heap.size + 1, 0, none⟩) 2 [(x, 1), (x + 1, 2)]) := Lib.hid (by
    rw [hw5, ← hz1]
    exact (row_pair _ (by unfold In64; omega)).below (below_box _ _))
  have HV5 : Hid (HVar w5 (w2.heap.size + 1 + 1) (.int .i64 0) (.slice (some ⟨w2.heap.size + 1, 0, none⟩) 2 2)) := Lib.hid (by
    rw [hw5, ← hz2]
    exact HVar.new _ _ _ _)
  have HB5 : Hid (Below w.heap.size w w5) := Lib.hid (by rw [hw5]; exact past_alloc (past_alloc (past_alloc HB2.out _) _) _)
  rw [← hw5]
  clear hw5 hz1 hz2 HB2
  go_wp2_with fail
  refine (told_any _).mono ?_
  rintro e w6 ⟨rfl, hb⟩
  have HP6 := Lib.hid (HP5.out.below hb)
  have HR6 := Lib.hid (HR5.out.below hb)
  have HV6 := Lib.hid (HV5.out.below hb)
  have HB6 := Lib.hid (past HB5.out hb)
  clear hb HP5 HR5 HV5 HB5
  obtain ⟨p0, p1, p2, p3, p4, p5⟩ := HP6.out
  obtain ⟨c0, c1, f0, f1⟩ := HV6.out
  go_wp2_with fail
  refine (MD.out _ _ _ HR6.out _).mono ?_
  rintro e w7 ⟨rfl, hb⟩
  have HP7 := Lib.hid (HP6.out.below hb)
  have HB7 := Lib.hid (past HB6.out hb)
  clear hb p0 p1 p2 p3 p4 p5 c0 c1 f0 f1 HP6 HR6 HV6 HB6
  obtain ⟨p0, p1, p2, p3, p4, p5⟩ := HP7.out
  have e8 : (decide ((8 : Int) ≤ ((2 : Nat) : Int)) || decide (x + (1 + y) ≤ x + (1 + y) + z - 2)) = decide (x + (1 + y) ≤ x + (1 + y) + z - 2) := by
    rw [decide_eq_false (by omega), Bool.false_or]
  rw [e8]
  generalize hD : decide (x + (1 + y) ≤ x + (1 + y) + z - 2) = D
  go_wp2_with fail
  refine (MN.out _ _).mono ?_
  rintro e w8 ⟨rfl, hb⟩
  have HB8 := Lib.hid (past HB7.out hb)
  clear hb p0 p1 p2 p3 p4 p5
  go_wp2
  go_ret
  exact ⟨rfl, HB8.out⟩
end Go.Proofs.Ytinplchaimejbaa.headTimes
