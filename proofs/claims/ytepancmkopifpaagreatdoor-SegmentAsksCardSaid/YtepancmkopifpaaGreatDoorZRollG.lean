/-
  join: what two windows of one beginning come to.
  All windows of a row but the first.
  aggsOf of two segments.
  rolled of two segments of windows.
  Roll of any two segments.
-/
import Derived.Test.YtepancmkopifpaaGreatDoorZDown
import Derived.Test.YtepancmkopifpaaGreatDoorSRollG
import Derived.Deep.DeepCutAuto
set_option maxRecDepth 100000
namespace Go.Proofs.YtepancmkopifpaaGreatDoor
open Go.RowKit
attribute [local go_sem ↓] Go.wp_at_zero Go.wp_at_succ
set_option linter.unusedVariables false

theorem joinG_zero {a b : Ag} (h : (join a b).2 ≠ 0) : (join a b).1 = Ag.zero := by
  unfold join at *
  split
  · split
    · rename_i h1 h2
      rw [if_pos h1, if_pos h2] at h
      exact absurd rfl h
    · rfl
  · rfl

theorem three_new (w : World) (a b : Ag) : Holds (((w.alloc (.cells #[.int .i64 a.fr, .int .i64 a.cn, .int .i64 a.sm, .int .i64 a.mn, .int .i64 a.mx, .int .i64 a.fi, .int .i64 a.la] 50)).alloc (.cells #[.int .i64 b.fr, .int .i64 b.cn, .int .i64 b.sm, .int .i64 b.mn, .int .i64 b.mx, .int .i64 b.fi, .int .i64 b.la] 50)).alloc (.cells #[.int .i64 0, .int .i64 0, .int .i64 0, .int .i64 0, .int .i64 0, .int .i64 0, .int .i64 0] 50)) w.heap.size a ∧ Holds (((w.alloc (.cells #[.int .i64 a.fr, .int .i64 a.cn, .int .i64 a.sm, .int .i64 a.mn, .int .i64 a.mx, .int .i64 a.fi, .int .i64 a.la] 50)).alloc (.cells #[.int .i64 b.fr, .int .i64 b.cn, .int .i64 b.sm, .int .i64 b.mn, .int .i64 b.mx, .int .i64 b.fi, .int .i64 b.la] 50)).alloc (.cells #[.int .i64 0, .int .i64 0, .int .i64 0, .int .i64 0, .int .i64 0, .int .i64 0, .int .i64 0] 50)) (w.heap.size + 1) b ∧
    Holds (((w.alloc (.cells #[.int .i64 a.fr, .int .i64 a.cn, .int .i64 a.sm, .int .i64 a.mn, .int .i64 a.mx, .int .i64 a.fi, .int .i64 a.la] 50)).alloc (.cells #[.int .i64 b.fr, .int .i64 b.cn, .int .i64 b.sm, .int .i64 b.mn, .int .i64 b.mx, .int .i64 b.fi, .int .i64 b.la] 50)).alloc (.cells #[.int .i64 0, .int .i64 0, .int .i64 0, .int .i64 0, .int .i64 0, .int .i64 0, .int .i64 0] 50)) (w.heap.size + 1 + 1) Ag.zero ∧ Free (((w.alloc (.cells #[.int .i64 a.fr, .int .i64 a.cn, .int .i64 a.sm, .int .i64 a.mn, .int .i64 a.mx, .int .i64 a.fi, .int .i64 a.la] 50)).alloc (.cells #[.int .i64 b.fr, .int .i64 b.cn, .int .i64 b.sm, .int .i64 b.mn, .int .i64 b.mx, .int .i64 b.fi, .int .i64 b.la] 50)).alloc (.cells #[.int .i64 0, .int .i64 0, .int .i64 0, .int .i64 0, .int .i64 0, .int .i64 0, .int .i64 0] 50)) (w.heap.size + 1 + 1) := by
  have e1 : ∀ (u : World) o, (u.alloc o).heap.size = u.heap.size + 1 := fun u o => by simp
  have h1 := ((Holds.new w a).past (.cells #[.int .i64 b.fr, .int .i64 b.cn, .int .i64 b.sm, .int .i64 b.mn, .int .i64 b.mx, .int .i64 b.fi, .int .i64 b.la] 50)).past (.cells #[.int .i64 0, .int .i64 0, .int .i64 0, .int .i64 0, .int .i64 0, .int .i64 0, .int .i64 0] 50)
  have h2 := (Holds.new (w.alloc (.cells #[.int .i64 a.fr, .int .i64 a.cn, .int .i64 a.sm, .int .i64 a.mn, .int .i64 a.mx, .int .i64 a.fi, .int .i64 a.la] 50)) b).past (.cells #[.int .i64 0, .int .i64 0, .int .i64 0, .int .i64 0, .int .i64 0, .int .i64 0, .int .i64 0] 50)
  have h3 := zero_new ((w.alloc (.cells #[.int .i64 a.fr, .int .i64 a.cn, .int .i64 a.sm, .int .i64 a.mn, .int .i64 a.mx, .int .i64 a.fi, .int .i64 a.la] 50)).alloc (.cells #[.int .i64 b.fr, .int .i64 b.cn, .int .i64 b.sm, .int .i64 b.mn, .int .i64 b.mx, .int .i64 b.fi, .int .i64 b.la] 50))
  rw [e1] at h2
  rw [e1 (w.alloc _), e1 w] at h3
  exact ⟨h1, h2, h3.1, h3.2.1⟩

set_option maxHeartbeats 1000000 in
theorem joinG_any {a b : Ag} {k : Int} {w : World} (ha : a.may) (hb : b.may) (oa : a.ok) (ob : b.ok) (hk : coarse k) (hk1 : coarse (k - 1)) (hw : Wid w) :
    Calls Tryz.prog 92 #[a.val, b.val, .int .i64 k] w fun e w' => e = .returned (.tuple #[(join a b).1.val, .int .i64 (join a b).2]) ∧ Below w.heap.size w w' := by
  have hk64 : In64 (k - 1) := by unfold coarse at hk; unfold In64; omega
  have hsub : IntKind.i64.wrap (k - 1) = k - 1 := by unfold coarse at hk; rw [IntKind.wrap_i64]; omega
  have m1 := fun u (hu : Wid u) => width_any (k - 1) u hk64 hu
  have hal := align_two (k := k) hk1 ha hb
  have hdn := down_two hk hk1 ha hb
  have hjz := joinG_zero (a := a) (b := b)
  have hjk := join_ok oa ob
  have hjf : (join a b).2 = 0 → (join a b).1.fr = a.fr := fun h => by rw [(join_zero h).2.2.2.2]; rfl
  have hww := coarse_wid hk1
  obtain ⟨k1, hk1'⟩ : ∃ k1, k - 1 = k1 := ⟨_, rfl⟩
  rw [hk1'] at m1 hal hdn hww
  replace hsub : IntKind.i64.wrap (k - 1) = k1 := hsub.trans hk1'
  obtain ⟨W, hW⟩ : ∃ W, wid k1 = W := ⟨_, rfl⟩
  rw [hW] at m1 hal hdn hww
  have hdo : down [a.move 0, b.move W] k = downOn k [] [a.move 0, b.move W] := by unfold down; rw [if_pos ⟨hk, by rw [hk1']; exact hal⟩]
  rw [hdo] at hdn
  have HIN : Hid (∀ x ∈ [a.move 0, b.move W], x.ok) := Lib.hid (by
    intro x hx
    simp only [List.mem_cons, List.not_mem_nil, or_false] at hx
    rcases hx with rfl | rfl
    · exact ⟨(by unfold In64; omega : In64 0), oa.2⟩
    · exact ⟨(by unfold In64; omega : In64 W), ob.2⟩)
  have m2 : ∀ u g, Aggs u (some ⟨g, 0, none⟩) [a.move 0, b.move W] → Wid u → Calls Tryz.prog 70 #[.slice (some ⟨g, 0, none⟩) 2 2, .int .i64 k] u (GivesO u (downOn k [] [a.move 0, b.move W])) := fun u g hA hu =>
    down_own_in g 0 2 2 [a.move 0, b.move W] k u rfl (by omega) hA (by omega) (by unfold maxLen; omega) hk (by rw [hk1']; exact hal) hu (by omega)
  rw [hdn] at m2
  have M1 := Lib.hid m1
  have M2 := Lib.hid m2
  have HW := Lib.hid hw
  obtain ⟨⟨x, c⟩, hx⟩ : ∃ y, join a b = y := ⟨_, rfl⟩
  rw [hx] at M2 hjz hjk hjf ⊢
  simp only at M2 hjz hjk hjf ⊢
  have HJZ := Lib.hid hjz
  have HJK := Lib.hid hjk
  have HJF := Lib.hid hjf
  obtain ⟨f0, c0, s0, mn0, mx0, fi0, la0⟩ := a
  obtain ⟨f1, c1, s1, mn1, mx1, fi1, la1⟩ := b
  unfold Ag.val
  simp only
  have HB0 := Lib.hid (past (past (below_box w (.cells #[.int .i64 f0, .int .i64 c0, .int .i64 s0, .int .i64 mn0, .int .i64 mx0, .int .i64 fi0, .int .i64 la0] 50)) (below_box _ (.cells #[.int .i64 f1, .int .i64 c1, .int .i64 s1, .int .i64 mn1, .int .i64 mx1, .int .i64 fi1, .int .i64 la1] 50))) (below_box _ (.cells #[.int .i64 0, .int .i64 0, .int .i64 0, .int .i64 0, .int .i64 0, .int .i64 0, .int .i64 0] 50)))
  clear m1 m2 hal hdn hdo hjz hjk hjf hx ha hb oa ob hk hk1 hw hk64 hk1' hW hww
  go_enter Tryz.func92, Tryz.ntmps92
  go_upto_region 2 with fail
  go_wp2_with fail
  refine (M1.out _ (HW.out.below HB0.out)).mono ?_
  rintro e w2 ⟨rfl, rfl⟩
  go_upto_region 3 with fail
  have hb3 := past (past (below_box w (.cells #[.int .i64 0, .int .i64 c0, .int .i64 s0, .int .i64 mn0, .int .i64 mx0, .int .i64 fi0, .int .i64 la0] 50)) (below_box _ (.cells #[.int .i64 W, .int .i64 c1, .int .i64 s1, .int .i64 mn1, .int .i64 mx1, .int .i64 fi1, .int .i64 la1] 50))) (below_box _ (.cells #[.int .i64 0, .int .i64 0, .int .i64 0, .int .i64 0, .int .i64 0, .int .i64 0, .int .i64 0] 50))
  have HQ : Hid (Holds (((w.alloc (.cells #[.int .i64 0, .int .i64 c0, .int .i64 s0, .int .i64 mn0, .int .i64 mx0, .int .i64 fi0, .int .i64 la0] 50)).alloc (.cells #[.int .i64 W, .int .i64 c1, .int .i64 s1, .int .i64 mn1, .int .i64 mx1, .int .i64 fi1, .int .i64 la1] 50)).alloc (.cells #[.int .i64 0, .int .i64 0, .int .i64 0, .int .i64 0, .int .i64 0, .int .i64 0, .int .i64 0] 50)) w.heap.size ⟨0, c0, s0, mn0, mx0, fi0, la0⟩ ∧
      Holds (((w.alloc (.cells #[.int .i64 0, .int .i64 c0, .int .i64 s0, .int .i64 mn0, .int .i64 mx0, .int .i64 fi0, .int .i64 la0] 50)).alloc (.cells #[.int .i64 W, .int .i64 c1, .int .i64 s1, .int .i64 mn1, .int .i64 mx1, .int .i64 fi1, .int .i64 la1] 50)).alloc (.cells #[.int .i64 0, .int .i64 0, .int .i64 0, .int .i64 0, .int .i64 0, .int .i64 0, .int .i64 0] 50)) (w.heap.size + 1) ⟨W, c1, s1, mn1, mx1, fi1, la1⟩ ∧
      Holds (((w.alloc (.cells #[.int .i64 0, .int .i64 c0, .int .i64 s0, .int .i64 mn0, .int .i64 mx0, .int .i64 fi0, .int .i64 la0] 50)).alloc (.cells #[.int .i64 W, .int .i64 c1, .int .i64 s1, .int .i64 mn1, .int .i64 mx1, .int .i64 fi1, .int .i64 la1] 50)).alloc (.cells #[.int .i64 0, .int .i64 0, .int .i64 0, .int .i64 0, .int .i64 0, .int .i64 0, .int .i64 0] 50)) (w.heap.size + 1 + 1) Ag.zero ∧
      Free (((w.alloc (.cells #[.int .i64 0, .int .i64 c0, .int .i64 s0, .int .i64 mn0, .int .i64 mx0, .int .i64 fi0, .int .i64 la0] 50)).alloc (.cells #[.int .i64 W, .int .i64 c1, .int .i64 s1, .int .i64 mn1, .int .i64 mx1, .int .i64 fi1, .int .i64 la1] 50)).alloc (.cells #[.int .i64 0, .int .i64 0, .int .i64 0, .int .i64 0, .int .i64 0, .int .i64 0, .int .i64 0] 50)) (w.heap.size + 1 + 1)) := Lib.hid (three_new w ⟨0, c0, s0, mn0, mx0, fi0, la0⟩ ⟨W, c1, s1, mn1, mx1, fi1, la1⟩)
  have hs3 : (((w.alloc (.cells #[.int .i64 0, .int .i64 c0, .int .i64 s0, .int .i64 mn0, .int .i64 mx0, .int .i64 fi0, .int .i64 la0] 50)).alloc (.cells #[.int .i64 W, .int .i64 c1, .int .i64 s1, .int .i64 mn1, .int .i64 mx1, .int .i64 fi1, .int .i64 la1] 50)).alloc (.cells #[.int .i64 0, .int .i64 0, .int .i64 0, .int .i64 0, .int .i64 0, .int .i64 0, .int .i64 0] 50)).heap.size = w.heap.size + 3 := by simp
  have HB3 := Lib.hid hb3
  have HS3 := Lib.hid hs3
  clear hb3 hs3 HB0
  generalize (((w.alloc (.cells #[.int .i64 0, .int .i64 c0, .int .i64 s0, .int .i64 mn0, .int .i64 mx0, .int .i64 fi0, .int .i64 la0] 50)).alloc (.cells #[.int .i64 W, .int .i64 c1, .int .i64 s1, .int .i64 mn1, .int .i64 mx1, .int .i64 fi1, .int .i64 la1] 50)).alloc (.cells #[.int .i64 0, .int .i64 0, .int .i64 0, .int .i64 0, .int .i64 0, .int .i64 0, .int .i64 0] 50)) = w3 at *
  obtain ⟨p0, p1, p2, p3, p4, p5, p6⟩ := HQ.out.1
  obtain ⟨q0, q1, q2, q3, q4, q5, q6⟩ := HQ.out.2.1
  simp only at p0 p1 p2 p3 p4 p5 p6 q0 q1 q2 q3 q4 q5 q6
  go_wp2_with fail
  refine (M2.out _ _ ?_ ?_).mono ?_
  · refine ⟨HIN.out, fun _ => ⟨w3.heap.size, 0, rfl, fun j hj => ?_⟩⟩
    match j, hj with
    | 0, _ => unfold HoldsAt; simp [agAt, Ag.move]
    | 1, _ => unfold HoldsAt; simp [agAt, Ag.move]
  · exact HW.out.below (past HB3.out (below_box _ _))
  rintro e w4 ⟨v, rfl, hb4, hown, hok⟩
  have HR := Lib.hid ((HQ.out.2.2.1.below (below_box _ _)).below hb4)
  have HF := Lib.hid ((HQ.out.2.2.2.below HQ.out.2.2.1.lt (below_box _ _)).below (HQ.out.2.2.1.past _).lt hb4)
  have HB4 := Lib.hid (past (past HB3.out (below_box _ _)) hb4)
  have hge : w.heap.size + 3 < w4.heap.size + 1 := by have := hb4.size; have := HS3.out; simp at *; omega
  obtain ⟨r0, r1, r2, r3, r4, r5, r6⟩ := HR.out
  obtain ⟨z0, z1, z2, z3, z4, z5, z6⟩ := HF.out
  have hsz : w.heap.size + 1 + 1 < (w3.alloc (.cells #[.int .i64 0, .int .i64 c0, .int .i64 s0, .int .i64 mn0, .int .i64 mx0, .int .i64 fi0, .int .i64 la0, .int .i64 W, .int .i64 c1, .int .i64 s1, .int .i64 mn1, .int .i64 mx1, .int .i64 fi1, .int .i64 la1] 50)).heap.size := by have := HS3.out; simp; omega
  by_cases hz : c = 0
  case neg =>
    have hx := HJZ.out hz
    rw [if_neg hz]
    clear hown hok hb4 hge hsz
    have hz' : (c == 0) = false := by simpa using hz
    go_wp2
    (try simp only [Exit.inBlock, Exit.then])
    refine bodyPost_ret (v := .tuple #[.agg #[.int .i64 0, .int .i64 0, .int .i64 0, .int .i64 0, .int .i64 0, .int .i64 0, .int .i64 0], .int .i64 c]) ?_ rfl ?_
    · rw [results_cell_tmp rfl]
      go_simp
    · refine ⟨by rw [hx]; rfl, by first | with_reducible exact HB4.out | with_reducible exact below_set7 HB4.out (Nat.le_succ_of_le (Nat.le_succ _))⟩
  case pos =>
    subst hz
    rw [if_pos rfl] at hown
    obtain ⟨gv, cap, rfl, hcap, hmax, hbg, hltg, hcell⟩ := own7_form hown (by simp)
    have hfz := fun i => hown.frozenAt i
    have hxf : x.fr = f0 := HJF.out rfl
    obtain ⟨e0, e1, e2, e3, e4, e5, e6⟩ := hcell 0 (by simp)
    have y0 := hfz 0
    have hne : gv ≠ w.heap.size + 1 + 1 := by omega
    have hne' : w.heap.size + 1 + 1 ≠ gv := by omega
    have HGE : Hid (w.heap.size ≤ gv) := Lib.hid (by omega)
    obtain ⟨fx, cx, sx, mnx, mxx, fix, lax⟩ := x
    simp only at hxf
    subst hxf
    simp only [agAt, Ag.move, List.getD_cons_zero, Nat.zero_mul, Nat.zero_add] at e0 e1 e2 e3 e4 e5 e6
    have hl1 : (List.length [Ag.move ⟨fx, cx, sx, mnx, mxx, fix, lax⟩ 0]) = 1 := rfl
    rw [if_pos rfl]
    simp only [List.length_cons, List.length_nil] at hcap ⊢
    have hc1 : 1 ≤ cap := hcap
    clear hown hok hb4 hge hsz hcell hfz hcap hbg hl1
    go_wp2
    (try simp only [Exit.inBlock, Exit.then])
    refine bodyPost_ret (v := .tuple #[.agg #[.int .i64 fx, .int .i64 cx, .int .i64 sx, .int .i64 mnx, .int .i64 mxx, .int .i64 fix, .int .i64 lax], .int .i64 0]) ?_ rfl ?_
    · rw [results_cell_tmp rfl]
      go_simp
    · exact ⟨rfl, below_set7 (HB4.out.setCell HGE.out _) (Nat.le_succ_of_le (Nat.le_succ _))⟩
end Go.Proofs.YtepancmkopifpaaGreatDoor
set_option maxRecDepth 100000
namespace Go.Proofs.YtepancmkopifpaaGreatDoor
open Go.RowKit
set_option linter.unusedVariables false
theorem sliceA_lo {b o m c : Nat} {x : Ag} {r : List Ag} (h : 1 ≤ m) (hc : m ≤ c) (hl : (x :: r).length = m) : ∃ A2, (∀ w, (Instr.slice 23 (.slice (some ⟨b, o, none⟩) m c) (some (.int .i64 1)) none none).run Tryz.prog w = .ok (.slice A2 (m - 1) (c - 1)) w) ∧
    ∀ w, RowOf w (some ⟨b, o, none⟩) m c (x :: r) → RowOf w A2 (m - 1) (c - 1) r := by
  have h1 : (1 : Int) ≤ (m : Int) := by omega
  have h2 : (m : Int) ≤ (c : Int) := by omega
  have hr : r.length = m - 1 := by simp at hl; omega
  by_cases h3 : c = 1
  · obtain rfl : m = 1 := by omega
    subst h3
    obtain rfl : r = [] := List.length_eq_zero_iff.1 (by simpa using hr)
    refine ⟨some ⟨b, o, none⟩, fun w => by go_simp, fun w hw => ⟨rfl, ⟨by simp, fun h => absurd h (by simp)⟩, Nat.le_refl _, by unfold maxLen; omega, fun e => by cases e⟩⟩
  · refine ⟨some ⟨b, o + 7, none⟩, fun w => by go_simp, fun w hw => ⟨hr, ⟨fun a ha => hw.2.1.1 a (List.mem_cons_of_mem _ ha), fun hp => ⟨b, o + 7, rfl, fun j hj => ?_⟩⟩, by omega, by have := hw.2.2.2.1; omega, fun e => by cases e⟩⟩
    obtain ⟨b', o', e, hcc⟩ := hw.2.1.2 (by simp)
    injection e with e
    injection e with e1 e2
    subst e1 e2
    have := hcc (j + 1) (by simp; try omega)
    rw [show o + (j + 1) * 7 = o + 7 + j * 7 by omega] at this
    exact this
end Go.Proofs.YtepancmkopifpaaGreatDoor
set_option maxRecDepth 100000
namespace Go.Proofs.YtepancmkopifpaaGreatDoor
open Go.RowKit
attribute [local go_sem ↓] Go.wp_at_zero Go.wp_at_succ
set_option linter.unusedVariables false

theorem RowOf.set_ {w : World} {A : Option Addr} {n cap g i : Nat} {x : Value} {l : List Ag} (h : RowOf w A n cap l) (hne : ∀ a, A = some a → a.block ≠ g) : RowOf (w.setCell ⟨g, i, none⟩ x) A n cap l :=
  h.kept (fun a e => Below.heap_setCell _ _ _ _ (hne a e))

set_option maxHeartbeats 2000000 in
theorem aggsOf_two {g off c : Nat} {s t : Sg} {k : Int} {b : Ag} {r : List Ag} {w : World} (h : Segs w g off [s, t]) (hc : 2 ≤ c) (hm : c ≤ 1000) (h0 : 0 < s.ag.length) (hn : s.ag.length ≤ 64) (htb : t.ag = b :: r) (hn2 : t.ag.length ≤ 64)
    (ma : (agAt s.ag (s.ag.length - 1)).may) (mb : b.may) (hk : coarse k) (hk1 : coarse (k - 1)) (hw : Wid w) :
    Calls Tryz.prog 69 #[.slice (some ⟨g, off, none⟩) 2 c, .int .i64 k] w fun e w' => ∃ v, e = .returned (.tuple #[v, .int .i64 (meet2 s.ag b r).2]) ∧ w'.ownsRow w.heap.size 50 7 v (meet2 s.ag b r).1.length (aggV (meet2 s.ag b r).1) ∧ Below w.heap.size w w' := by
  obtain ⟨A, n, ca, B, m, cb, hs⟩ := h 0 (by simp)
  obtain ⟨A2, n2, ca2, B2, m2, cb2, ht⟩ := h 1 (by simp)
  have e0 : sgAt [s, t] 0 = s := rfl
  have e1 : sgAt [s, t] 1 = t := rfl
  rw [e0] at hs
  rw [e1] at ht
  obtain ⟨i, k', f, t', sm, ag⟩ := s
  obtain ⟨i2, k2, f2, t2, sm2, ag2⟩ := t
  simp only at htb hn hn2 h0 ma ⊢
  subst htb
  obtain ⟨c0, c1, c2, c3, c4, c5, hseg⟩ := hs
  have HT := Lib.hid ht
  have HBW : Hid (∀ x, B2 = some x → x.block < w.heap.size) := Lib.hid (fun x e => by
    obtain ⟨b', o', e2, hcc⟩ := ht.at_.ag.2.1.2 (by simp)
    rw [e] at e2
    injection e2 with e2
    rw [e2]
    exact (hcc 0 (by simp)).lt)
  simp only [Nat.zero_mul, Nat.add_zero] at c0 c1 c2 c3 c4 c5
  have HB9 := Lib.hid (below_box w (.cells #[.int .i64 i, .int .i64 k', .int .i64 f, .int .i64 t', .slice A n ca, .slice B m cb] 25))
  have HROW := Lib.hid ((hseg.below HB9.out).ag)
  have hml : ag.length = m := hseg.ag.1
  have hml2 : (b :: r).length = m2 := ht.at_.ag.1
  have hcap : (0 : Int) < 2 := by omega
  have HBIG : Hid (0 + m ≤ 100000) := Lib.hid (by omega)
  have HM' : Hid (ag.length = m) := Lib.hid hml
  have HM2 : Hid ((b :: r).length = m2) := Lib.hid hml2
  have HLIM : Hid (0 < m ∧ m ≤ 64 ∧ m2 ≤ 64) := Lib.hid (by omega)
  have HMAY := Lib.hid (And.intro ma mb)
  have HOKS : Hid (∀ x ∈ ag, x.ok) := Lib.hid hseg.ok.2.2.2.2.2
  have HOKT : Hid (∀ x ∈ b :: r, x.ok) := Lib.hid ht.at_.ok.2.2.2.2.2
  have HK := Lib.hid (And.intro hk hk1)
  have HW := Lib.hid hw
  clear h e0 e1 hseg ht hn hn2 h0 ma mb hk hk1 hw hml hml2
  go_enter Tryz.func69, Tryz.ntmps69
  go_wp2
  go_step3
  go_wp2
  go_step3
  go_wp2
  refine wp_loop_rounds 4 ?_
  rw [rounds_succ]
  go_upto_region 6 with fail
  go_quiet (fail)
  obtain ⟨wd, hwd⟩ : ∃ wd, wd = (w.alloc (.cells #[.int .i64 i, .int .i64 k', .int .i64 f, .int .i64 t', .slice A n ca, .slice B m cb] 25)).drewN nq := ⟨_, rfl⟩
  have hBd : Below w.heap.size w wd := by rw [hwd]; exact past HB9.out (belowN _ _)
  have HROW2 : Hid (RowOf wd B m cb ag) := Lib.hid (by rw [hwd]; exact HROW.out.below (belowN _ _))
  have d5 : wd.cell? ⟨w.heap.size, 5, none⟩ = some (.slice B m cb) := by rw [hwd]; exact (SgV.new w i k' f t' (.slice A n ca) (.slice B m cb) 25).c5
  have HBD := Lib.hid hBd
  rw [← hwd]
  clear hwd hBd HROW HB9 c0 c1 c2 c3 c4 c5
  go_wp2_with (at_builtin; refine wpList_append_aggs rfl _ _ rfl w.heap.size _ 0 m [] ag rfl (World.ownsRow_nil _ _ _ _) B cb rfl HROW2.out HBIG.out HBD.out.size ?_)
  intro v3 w3 hown hgrow
  have hown' : w3.ownsRow w.heap.size 50 7 v3 m (aggV ag) := hown
  have HB3 : Hid (Below w.heap.size w w3) := Lib.hid (HBD.out.grown hgrow HBD.out.size (fun k h => by cases h))
  have HO3 : Hid (w3.ownsRow w.heap.size 50 7 v3 m (aggV ag)) := Lib.hid hown'
  have HT3 := Lib.hid (HT.out.below HB3.out)
  clear hown hown' hgrow HROW2 HBIG HBD d5 HT
  obtain ⟨gv, cv, rfl, hcv, hmv, hbg, hltg, hcell⟩ := own7_form HO3.out (by have := HLIM.out; omega)
  have HCELL := Lib.hid hcell
  have HGV : Hid (w.heap.size ≤ gv ∧ gv < w3.heap.size ∧ m ≤ cv ∧ cv ≤ maxLen) := Lib.hid ⟨hbg, hltg, hcv, hmv⟩
  obtain ⟨c0, c1, c2, c3, c4, c5, hseg⟩ := HT3.out
  simp only [Nat.one_mul] at c0 c1 c2 c3 c4 c5
  clear hcell hbg hltg hcv hmv hseg
  have i1 : (1 : Int) < 2 := by omega
  obtain ⟨q, hq⟩ : ∃ q, q + 1 = m := ⟨m - 1, by have := HLIM.out; omega⟩
  have kq : IntKind.i64.wrap ((m : Int) - 1) = (q : Int) := by have := HLIM.out; rw [IntKind.wrap_i64]; omega
  go_wp2
  rw [rounds_succ]
  go_upto_region 6 with fail
  have hb4 := below_box w3 (.cells #[.int .i64 i2, .int .i64 k2, .int .i64 f2, .int .i64 t2, .slice A2 n2 ca2, .slice B2 m2 cb2] 25)
  have d5 := (SgV.new w3 i2 k2 f2 t2 (.slice A2 n2 ca2) (.slice B2 m2 cb2) 25).c5
  have HT4 := Lib.hid (HT3.out.below hb4)
  have HO4 := Lib.hid (own7_below HO3.out hb4)
  have HB4 := Lib.hid (past HB3.out hb4)
  have HGV4 : Hid (gv < w3.heap.size ∧ w3.heap.size < (w3.alloc (.cells #[.int .i64 i2, .int .i64 k2, .int .i64 f2, .int .i64 t2, .slice A2 n2 ca2, .slice B2 m2 cb2] 25)).heap.size) := Lib.hid ⟨HGV.out.2.1, by simp⟩
  have hlast := (HCELL.out q (by omega)).below hb4
  obtain ⟨b2, o2, rfl, hc2⟩ := HT4.out.at_.ag.2.1.2 (by simp)
  have hfirst := hc2 0 (by simp)
  have HFST := Lib.hid hc2
  clear HT3 HO3 HB3 hb4 hc2 c0 c1 c2 c3 c4 c5 HCELL
  obtain ⟨g8, hg8⟩ : ∃ g8, w3.heap.size = g8 := ⟨_, rfl⟩
  rw [hg8] at d5 HGV4 HGV ⊢
  generalize w3.alloc (.cells #[.int .i64 i2, .int .i64 k2, .int .i64 f2, .int .i64 t2, .slice A2 n2 ca2, .slice (some ⟨b2, o2, none⟩) m2 cb2] 25) = w4 at *
  clear hg8
  have hqm : ag.length - 1 = q := by have := HM'.out; omega
  rw [hqm] at HMAY
  obtain ⟨la, hla⟩ : ∃ x, agAt ag q = x := ⟨_, rfl⟩
  rw [hla] at hlast HMAY
  have hfa : agAt (b :: r) 0 = b := rfl
  rw [hfa] at hfirst
  have HME : Hid (meet2 ag b r = if la.fr = b.fr then if (join la b).2 = 0 then (ag.set q (join la b).1 ++ r, 0) else ([], (join la b).2) else (ag ++ b :: r, 0)) := Lib.hid (by unfold meet2; rw [hqm, hla])
  have i2' : (q : Int) < (m : Int) := by omega
  have i3 : (0 : Int) ≤ (q : Int) := by omega
  have i4 : (0 : Int) < (m2 : Int) := by have := HM2.out; simp at this; omega
  have hpos2 : 0 < m2 := by omega
  have HQ := Lib.hid hq
  have HLA := Lib.hid hla
  clear hqm hla hfa hq
  obtain ⟨l0, l1, l2, l3, l4, l5, l6⟩ := hlast
  obtain ⟨s0, s1, s2, s3, s4, s5, s6⟩ := hfirst
  simp only [Nat.zero_mul, Nat.add_zero] at s0 s1 s2 s3 s4 s5 s6
  by_cases he : la.fr = b.fr
  case neg =>
    have HR : Hid (meet2 ag b r = (ag ++ b :: r, 0)) := Lib.hid (by rw [HME.out, if_neg he])
    have hne : (la.fr != b.fr) = true := by simpa using he
    go_quiet (fail)
    have HZ : Hid ((w4.drewN nq).ownsRow w.heap.size 50 7 (.slice (some ⟨gv, 0, none⟩) m cv) m (aggV ag) ∧ RowOf (w4.drewN nq) (some ⟨b2, o2, none⟩) m2 cb2 (b :: r) ∧ Below w.heap.size w (w4.drewN nq)) := Lib.hid ⟨own7_below HO4.out (belowN _ _), (HT4.out.at_.below (belowN _ _)).ag, past HB4.out (belowN _ _)⟩
    have HBIG : Hid (m + m2 ≤ 100000) := Lib.hid (by have := HLIM.out; omega)
    have e5 : (w4.drewN nq).cell? ⟨g8, 5, none⟩ = some (.slice (some ⟨b2, o2, none⟩) m2 cb2) := d5
    generalize w4.drewN nq = wz at *
    clear l0 l1 l2 l3 l4 l5 l6 s0 s1 s2 s3 s4 s5 s6 d5 he HME HO4 HT4 HFST HMAY
    go_wp2_with (at_builtin; refine wpList_append_aggs rfl _ _ rfl w.heap.size _ m m2 ag (b :: r) rfl HZ.out.1 _ cb2 rfl HZ.out.2.1 HBIG.out HZ.out.2.2.size ?_)
    intro v5 w5 hown hgrow
    have HB5 : Hid (Below w.heap.size w w5) := Lib.hid (HZ.out.2.2.grown hgrow HZ.out.2.2.size (fun k h => (HZ.out.1.lt k h).1))
    have HO5 : Hid (w5.ownsRow w.heap.size 50 7 v5 (ag ++ b :: r).length (aggV (ag ++ b :: r))) := Lib.hid (by
      have h1 := HM'.out
      have h2 := HM2.out
      rw [List.length_append, h1, h2]
      exact hown)
    clear hown hgrow HZ HBIG e5
    go_wp2
    rw [rounds_succ]
    go_wp2
    (try rw [Exit.noGoto_ret])
    go_ret2
    rw [HR.out]
    exact ⟨_, rfl, HO5.out, HB5.out⟩
  case pos =>
    obtain ⟨⟨ja, jc⟩, hj⟩ : ∃ x, join la b = x := ⟨_, rfl⟩
    have oka : la.ok := by have := HOKS.out (agAt ag q) (agg_mem (by have := HM'.out; have := HQ.out; omega)); rw [HLA.out] at this; exact this
    have okb : b.ok := HOKT.out b (by simp)
    have hjk := join_ok oka okb
    have m6 := fun u (hu : Wid u) => joinG_any HMAY.out.1 HMAY.out.2 oka okb HK.out.1 HK.out.2 hu
    rw [hj] at m6 hjk
    simp only at m6 hjk
    unfold Ag.val at m6
    have M6 := Lib.hid m6
    have HJK := Lib.hid hjk
    have HR : Hid (meet2 ag b r = if jc = 0 then (ag.set q ja ++ r, 0) else ([], jc)) := Lib.hid (by rw [HME.out, if_pos he, hj])
    have hne : (la.fr != b.fr) = false := by simpa using he
    have hq0 : decide ((q : Int) < 0) = false := decide_eq_false (by omega)
    clear he hj hjk m6 oka okb HME HMAY
    go_quiet (fail)
    have HY : Hid ((w4.drewN nq).ownsRow w.heap.size 50 7 (.slice (some ⟨gv, 0, none⟩) m cv) m (aggV ag) ∧ RowOf (w4.drewN nq) (some ⟨b2, o2, none⟩) m2 cb2 (b :: r) ∧ Below w.heap.size w (w4.drewN nq)) := Lib.hid ⟨own7_below HO4.out (belowN _ _), (HT4.out.at_.below (belowN _ _)).ag, past HB4.out (belowN _ _)⟩
    have e5 : (w4.drewN nq).cell? ⟨g8, 5, none⟩ = some (.slice (some ⟨b2, o2, none⟩) m2 cb2) := d5
    have HL : Hid (HoldsAt (w4.drewN nq) gv (q * 7) la) := Lib.hid ⟨l0, l1, l2, l3, l4, l5, l6⟩
    have HS : Hid (HoldsAt (w4.drewN nq) b2 o2 b) := Lib.hid ⟨s0, s1, s2, s3, s4, s5, s6⟩
    clear l0 l1 l2 l3 l4 l5 l6 s0 s1 s2 s3 s4 s5 s6 d5 HO4 HT4 HFST hne hq0
    generalize w4.drewN nq = wy at *
    obtain ⟨d0, d1, d2, d3, d4, d5, d6⟩ := HL.out
    obtain ⟨s0, s1, s2, s3, s4, s5, s6⟩ := HS.out
    go_upto_region 8 with fail
    have hltg : gv < wy.heap.size := HL.out.lt
    have hlt2 : b2 < wy.heap.size := HS.out.lt
    have hlt8 : g8 < wy.heap.size := World.block_lt_of_cell? wy _ e5
    have hneg : gv ≠ wy.heap.size := by omega
    have hne2 : b2 ≠ wy.heap.size := by omega
    have hne8 : g8 ≠ wy.heap.size := by omega
    have hneb : ∀ a, some (⟨b2, o2, none⟩ : Addr) = some a → a.block ≠ wy.heap.size := fun a e => by injection e with e; rw [← e]; exact hne2
    have HWY : Hid (∀ u, Below wy.heap.size wy u → Wid u) := Lib.hid (fun u hu => HW.out.below (past HY.out.2.2 hu))
    have HSK : Hid (∀ w', Below wy.heap.size wy w' → (HoldsAt w' gv (q * 7) la ∧ HoldsAt w' b2 o2 b ∧ w'.cell? ⟨g8, 5, none⟩ = some (.slice (some ⟨b2, o2, none⟩) m2 cb2))) := Lib.hid (fun w' hb => ⟨HL.out.below hb, HS.out.below hb, by rw [hb.cell hlt8]; exact e5⟩)
    go_region_with (first
        | (go_at_call 92
           first
             | (refine (M6.out _ (HWY.out _ (belowN wy 1))).mono ?_; rintro e wt ⟨rfl, hbt⟩
                have hB : Below wy.heap.size wy wt := (belowN wy 1).trans hbt)
             | (refine (M6.out _ (HWY.out _ (past (past_alloc (Below.refl _ _) _) (belowN _ 1)))).mono ?_; rintro e wt ⟨rfl, hbt⟩
                have hbt' := (belowN (wy.alloc (.cells #[.int .i64 0, .int .i64 0, .int .i64 0, .int .i64 0, .int .i64 0, .int .i64 0, .int .i64 0] 50)) 1).trans hbt
                have hB : Below wy.heap.size wy wt := past (past_alloc (Below.refl _ _) _) hbt'
                have hz8 : Holds wt wy.heap.size Ag.zero := (zero_new wy).1.below hbt'
                have hf8 : Free wt wy.heap.size := (zero_new wy).2.1.below (zero_new wy).2.2 hbt'
                unfold Ag.zero at hz8
                obtain ⟨z0, z1, z2, z3, z4, z5, z6⟩ := hz8
                obtain ⟨f0, f1, f2, f3, f4, f5, f6⟩ := hf8)))
    all_goals first
      | (have HT : Hid (Holds (((((((wt.setCell ⟨wy.heap.size, 0, none⟩ (.int .i64 ja.fr)).setCell ⟨wy.heap.size, 1, none⟩ (.int .i64 ja.cn)).setCell ⟨wy.heap.size, 2, none⟩ (.int .i64 ja.sm)).setCell ⟨wy.heap.size, 3, none⟩ (.int .i64 ja.mn)).setCell ⟨wy.heap.size, 4, none⟩ (.int .i64 ja.mx)).setCell ⟨wy.heap.size, 5, none⟩ (.int .i64 ja.fi)).setCell ⟨wy.heap.size, 6, none⟩ (.int .i64 ja.la)) wy.heap.size ja ∧ (((((((wt.setCell ⟨wy.heap.size, 0, none⟩ (.int .i64 ja.fr)).setCell ⟨wy.heap.size, 1, none⟩ (.int .i64 ja.cn)).setCell ⟨wy.heap.size, 2, none⟩ (.int .i64 ja.sm)).setCell ⟨wy.heap.size, 3, none⟩ (.int .i64 ja.mn)).setCell ⟨wy.heap.size, 4, none⟩ (.int .i64 ja.mx)).setCell ⟨wy.heap.size, 5, none⟩ (.int .i64 ja.fi)).setCell ⟨wy.heap.size, 6, none⟩ (.int .i64 ja.la)).ownsRow w.heap.size 50 7 (.slice (some ⟨gv, 0, none⟩) m cv) m (aggV ag) ∧ Below w.heap.size w (((((((wt.setCell ⟨wy.heap.size, 0, none⟩ (.int .i64 ja.fr)).setCell ⟨wy.heap.size, 1, none⟩ (.int .i64 ja.cn)).setCell ⟨wy.heap.size, 2, none⟩ (.int .i64 ja.sm)).setCell ⟨wy.heap.size, 3, none⟩ (.int .i64 ja.mn)).setCell ⟨wy.heap.size, 4, none⟩ (.int .i64 ja.mx)).setCell ⟨wy.heap.size, 5, none⟩ (.int .i64 ja.fi)).setCell ⟨wy.heap.size, 6, none⟩ (.int .i64 ja.la)) ∧ w.heap.size ≤ gv ∧ RowOf (((((((wt.setCell ⟨wy.heap.size, 0, none⟩ (.int .i64 ja.fr)).setCell ⟨wy.heap.size, 1, none⟩ (.int .i64 ja.cn)).setCell ⟨wy.heap.size, 2, none⟩ (.int .i64 ja.sm)).setCell ⟨wy.heap.size, 3, none⟩ (.int .i64 ja.mn)).setCell ⟨wy.heap.size, 4, none⟩ (.int .i64 ja.mx)).setCell ⟨wy.heap.size, 5, none⟩ (.int .i64 ja.fi)).setCell ⟨wy.heap.size, 6, none⟩ (.int .i64 ja.la)) (some ⟨b2, o2, none⟩) m2 cb2 (b :: r) ∧ (((((((wt.setCell ⟨wy.heap.size, 0, none⟩ (.int .i64 ja.fr)).setCell ⟨wy.heap.size, 1, none⟩ (.int .i64 ja.cn)).setCell ⟨wy.heap.size, 2, none⟩ (.int .i64 ja.sm)).setCell ⟨wy.heap.size, 3, none⟩ (.int .i64 ja.mn)).setCell ⟨wy.heap.size, 4, none⟩ (.int .i64 ja.mx)).setCell ⟨wy.heap.size, 5, none⟩ (.int .i64 ja.fi)).setCell ⟨wy.heap.size, 6, none⟩ (.int .i64 ja.la)).cell? ⟨g8, 5, none⟩ = some (.slice (some ⟨b2, o2, none⟩) m2 cb2)) := Lib.hid (by
           have hno : (Value.slice (some ⟨gv, 0, none⟩) m cv).ownBlock ≠ some wy.heap.size := fun e => hneg (Option.some.inj e)
           refine ⟨holds_set (a0 := Ag.zero) ⟨z0, z1, z2, z3, z4, z5, z6⟩, ?_, below_set (past HY.out.2.2 hB) HY.out.2.2.size _ _ _ _ _ _ _, HGV.out.1, (((((((HY.out.2.1.below hB).set_ hneb).set_ hneb).set_ hneb).set_ hneb).set_ hneb).set_ hneb).set_ hneb, (((((((cell_other hne8).trans (cell_other hne8)).trans (cell_other hne8)).trans (cell_other hne8)).trans (cell_other hne8)).trans (cell_other hne8)).trans (cell_other hne8)).trans (HSK.out _ hB).2.2⟩
           exact ownsRow_setCell_other (ownsRow_setCell_other (ownsRow_setCell_other (ownsRow_setCell_other (ownsRow_setCell_other (ownsRow_setCell_other (ownsRow_setCell_other (own7_below HY.out.1 hB) hno _) hno _) hno _) hno _) hno _) hno _) hno _)
         clear z0 z1 z2 z3 z4 z5 z6 f0 f1 f2 f3 f4 f5 f6 hbt hbt' hB d0 d1 d2 d3 d4 d5 d6 hne8 hneg hne2 hneb hlt8 hltg hlt2 HSK M6 s0 s1 s2 s3 s4 s5 s6 e5
         generalize (((((((wt.setCell ⟨wy.heap.size, 0, none⟩ (.int .i64 ja.fr)).setCell ⟨wy.heap.size, 1, none⟩ (.int .i64 ja.cn)).setCell ⟨wy.heap.size, 2, none⟩ (.int .i64 ja.sm)).setCell ⟨wy.heap.size, 3, none⟩ (.int .i64 ja.mn)).setCell ⟨wy.heap.size, 4, none⟩ (.int .i64 ja.mx)).setCell ⟨wy.heap.size, 5, none⟩ (.int .i64 ja.fi)).setCell ⟨wy.heap.size, 6, none⟩ (.int .i64 ja.la)) = wq at *
         generalize wy.heap.size = g10 at *)
      | (have HT : Hid (Holds (wt.alloc (.cells #[.int .i64 ja.fr, .int .i64 ja.cn, .int .i64 ja.sm, .int .i64 ja.mn, .int .i64 ja.mx, .int .i64 ja.fi, .int .i64 ja.la] 50)) wt.heap.size ja ∧ (wt.alloc (.cells #[.int .i64 ja.fr, .int .i64 ja.cn, .int .i64 ja.sm, .int .i64 ja.mn, .int .i64 ja.mx, .int .i64 ja.fi, .int .i64 ja.la] 50)).ownsRow w.heap.size 50 7 (.slice (some ⟨gv, 0, none⟩) m cv) m (aggV ag) ∧ Below w.heap.size w (wt.alloc (.cells #[.int .i64 ja.fr, .int .i64 ja.cn, .int .i64 ja.sm, .int .i64 ja.mn, .int .i64 ja.mx, .int .i64 ja.fi, .int .i64 ja.la] 50)) ∧ w.heap.size ≤ gv ∧ RowOf (wt.alloc (.cells #[.int .i64 ja.fr, .int .i64 ja.cn, .int .i64 ja.sm, .int .i64 ja.mn, .int .i64 ja.mx, .int .i64 ja.fi, .int .i64 ja.la] 50)) (some ⟨b2, o2, none⟩) m2 cb2 (b :: r) ∧ (wt.alloc (.cells #[.int .i64 ja.fr, .int .i64 ja.cn, .int .i64 ja.sm, .int .i64 ja.mn, .int .i64 ja.mx, .int .i64 ja.fi, .int .i64 ja.la] 50)).cell? ⟨g8, 5, none⟩ = some (.slice (some ⟨b2, o2, none⟩) m2 cb2)) := Lib.hid
           ⟨Holds.new wt ja, own7_below HY.out.1 (past_alloc hB _), past_alloc (past HY.out.2.2 hB) _, HGV.out.1, (HY.out.2.1.below hB).below (below_box _ _), (HSK.out _ (past_alloc hB _)).2.2⟩
         clear hbt hB d0 d1 d2 d3 d4 d5 d6 hne8 hneg hne2 hneb hlt8 hltg hlt2 HSK M6 s0 s1 s2 s3 s4 s5 s6 e5
         generalize (wt.alloc (.cells #[.int .i64 ja.fr, .int .i64 ja.cn, .int .i64 ja.sm, .int .i64 ja.mn, .int .i64 ja.mx, .int .i64 ja.fi, .int .i64 ja.la] 50)) = wq at *
         generalize wt.heap.size = g10 at *)
    all_goals
      by_cases hz : jc = 0
      case neg =>
        have HN : Hid (meet2 ag b r = ([], jc)) := Lib.hid (by rw [HR.out, if_neg hz])
        have hz' : (jc == 0) = false := by simpa using hz
        go_wp2
        (try rw [Exit.noGoto_ret])
        go_ret2
        rw [HN.out]
        exact ⟨.slice none 0 0, rfl, World.ownsRow_nil _ _ _ _, HT.out.2.2.1⟩
      have HN : Hid (meet2 ag b r = (ag.set q ja ++ r, 0)) := Lib.hid (by rw [HR.out, if_pos hz])
      subst hz
      obtain ⟨d0, d1, d2, d3, d4, d5, d6⟩ := HT.out.1
      have e5 := HT.out.2.2.2.2.2
      obtain ⟨e0, e1, e2, e3, e4, e6, e7⟩ : HoldsAt wq gv (q * 7) (agAt ag q) := by
        obtain ⟨g', ca', e, _, _, _, _, hg⟩ := own7_form HT.out.2.1 (by have := HQ.out; omega)
        injection e with e
        injection e with e
        injection e with e
        subst e
        exact hg q (by have := HQ.out; omega)
      have f0 := HT.out.2.1.frozenAt (q * 7)
      have f1 := HT.out.2.1.frozenAt (q * 7 + 1)
      have f2 := HT.out.2.1.frozenAt (q * 7 + 2)
      have f3 := HT.out.2.1.frozenAt (q * 7 + 3)
      have f4 := HT.out.2.1.frozenAt (q * 7 + 4)
      have f5 := HT.out.2.1.frozenAt (q * 7 + 5)
      have f6 := HT.out.2.1.frozenAt (q * 7 + 6)
      have hb2v : b2 ≠ gv := by have := HBW.out _ rfl; have := HGV.out.1; simp only at *; omega
      have h8v : g8 ≠ gv := by have := HGV4.out.1; omega
      have hnb : ∀ a, some (⟨b2, o2, none⟩ : Addr) = some a → a.block ≠ gv := fun a e => by injection e with e; rw [← e]; exact hb2v
      have HNEW : Hid ((((((((wq.setCell ⟨gv, q * 7, none⟩ (.int .i64 ja.fr)).setCell ⟨gv, q * 7 + 1, none⟩ (.int .i64 ja.cn)).setCell ⟨gv, q * 7 + 2, none⟩ (.int .i64 ja.sm)).setCell ⟨gv, q * 7 + 3, none⟩ (.int .i64 ja.mn)).setCell ⟨gv, q * 7 + 4, none⟩ (.int .i64 ja.mx)).setCell ⟨gv, q * 7 + 5, none⟩ (.int .i64 ja.fi)).setCell ⟨gv, q * 7 + 6, none⟩ (.int .i64 ja.la)).ownsRow w.heap.size 50 7 (.slice (some ⟨gv, 0, none⟩) m cv) m (aggV (ag.set q ja)) ∧
          Below w.heap.size w (((((((wq.setCell ⟨gv, q * 7, none⟩ (.int .i64 ja.fr)).setCell ⟨gv, q * 7 + 1, none⟩ (.int .i64 ja.cn)).setCell ⟨gv, q * 7 + 2, none⟩ (.int .i64 ja.sm)).setCell ⟨gv, q * 7 + 3, none⟩ (.int .i64 ja.mn)).setCell ⟨gv, q * 7 + 4, none⟩ (.int .i64 ja.mx)).setCell ⟨gv, q * 7 + 5, none⟩ (.int .i64 ja.fi)).setCell ⟨gv, q * 7 + 6, none⟩ (.int .i64 ja.la)) ∧
          RowOf (((((((wq.setCell ⟨gv, q * 7, none⟩ (.int .i64 ja.fr)).setCell ⟨gv, q * 7 + 1, none⟩ (.int .i64 ja.cn)).setCell ⟨gv, q * 7 + 2, none⟩ (.int .i64 ja.sm)).setCell ⟨gv, q * 7 + 3, none⟩ (.int .i64 ja.mn)).setCell ⟨gv, q * 7 + 4, none⟩ (.int .i64 ja.mx)).setCell ⟨gv, q * 7 + 5, none⟩ (.int .i64 ja.fi)).setCell ⟨gv, q * 7 + 6, none⟩ (.int .i64 ja.la)) (some ⟨b2, o2, none⟩) m2 cb2 (b :: r)) := Lib.hid (by
        refine ⟨?_, below_set7 HT.out.2.2.1 HGV.out.1, (((((((HT.out.2.2.2.2.1).set_ hnb).set_ hnb).set_ hnb).set_ hnb).set_ hnb).set_ hnb).set_ hnb⟩
        rw [← aggV_set ja ag q (by have := HM'.out; have := HQ.out; omega)]
        exact ((((((((((((((HT.out.2.1).stored (q * 7) (.int .i64 ja.fr)).1).stored (q * 7 + 1) (.int .i64 ja.cn)).1).stored (q * 7 + 2) (.int .i64 ja.sm)).1).stored (q * 7 + 3) (.int .i64 ja.mn)).1).stored (q * 7 + 4) (.int .i64 ja.mx)).1).stored (q * 7 + 5) (.int .i64 ja.fi)).1).stored (q * 7 + 6) (.int .i64 ja.la)).1)
      obtain ⟨A3, hrun, hrow⟩ := sliceA_lo (b := b2) (o := o2) (x := b) (r := r) hpos2 HT.out.2.2.2.2.1.2.2.1 HM2.out
      have HROW := Lib.hid (hrow _ HNEW.out.2.2)
      have HBIG : Hid (m + (m2 - 1) ≤ 100000) := Lib.hid (by have := HLIM.out; omega)
      have HE8 : Hid ((((((((wq.setCell ⟨gv, q * 7, none⟩ (.int .i64 ja.fr)).setCell ⟨gv, q * 7 + 1, none⟩ (.int .i64 ja.cn)).setCell ⟨gv, q * 7 + 2, none⟩ (.int .i64 ja.sm)).setCell ⟨gv, q * 7 + 3, none⟩ (.int .i64 ja.mn)).setCell ⟨gv, q * 7 + 4, none⟩ (.int .i64 ja.mx)).setCell ⟨gv, q * 7 + 5, none⟩ (.int .i64 ja.fi)).setCell ⟨gv, q * 7 + 6, none⟩ (.int .i64 ja.la)).cell? ⟨g8, 5, none⟩ = some (.slice (some ⟨b2, o2, none⟩) m2 cb2)) := Lib.hid (((((((cell_other h8v).trans (cell_other h8v)).trans (cell_other h8v)).trans (cell_other h8v)).trans (cell_other h8v)).trans (cell_other h8v)).trans ((cell_other h8v).trans e5))
      have HRL : Hid ((ag.set q ja ++ r).length = m + (m2 - 1)) := Lib.hid (by
        have h1 := HM'.out
        have h2 := HM2.out
        rw [List.length_append, List.length_set, h1]
        simp at h2
        omega)
      clear hrow HT
      go_upto_region 12 with fail
      clear d0 d1 d2 d3 d4 d5 d6 e0 e1 e2 e3 e4 e5 e6 e7 f0 f1 f2 f3 f4 f5 f6
      generalize (((((((wq.setCell ⟨gv, q * 7, none⟩ (.int .i64 ja.fr)).setCell ⟨gv, q * 7 + 1, none⟩ (.int .i64 ja.cn)).setCell ⟨gv, q * 7 + 2, none⟩ (.int .i64 ja.sm)).setCell ⟨gv, q * 7 + 3, none⟩ (.int .i64 ja.mn)).setCell ⟨gv, q * 7 + 4, none⟩ (.int .i64 ja.mx)).setCell ⟨gv, q * 7 + 5, none⟩ (.int .i64 ja.fi)).setCell ⟨gv, q * 7 + 6, none⟩ (.int .i64 ja.la)) = wX at *
      have e8 := HE8.out
      go_wp2_with (at_builtin; refine wpList_append_aggs rfl _ _ rfl w.heap.size _ m (m2 - 1) (ag.set q ja) r rfl HNEW.out.1 A3 (cb2 - 1) rfl HROW.out HBIG.out HNEW.out.2.1.size ?_)
      intro v5 w5 hown hgrow
      have HB5 : Hid (Below w.heap.size w w5) := Lib.hid (HNEW.out.2.1.grown hgrow HNEW.out.2.1.size (fun k h => (HNEW.out.1.lt k h).1))
      have HO5 : Hid (w5.ownsRow w.heap.size 50 7 v5 (ag.set q ja ++ r).length (aggV (ag.set q ja ++ r))) := Lib.hid (by
        rw [HRL.out]
        exact hown)
      clear hown hgrow HNEW HROW HBIG e8 HE8 hrun
      go_wp2
      rw [rounds_succ]
      go_wp2
      (try rw [Exit.noGoto_ret])
      go_ret2
      rw [HN.out]
      exact ⟨_, rfl, HO5.out, HB5.out⟩
end Go.Proofs.YtepancmkopifpaaGreatDoor
set_option maxRecDepth 100000
namespace Go.Proofs.YtepancmkopifpaaGreatDoor
open Go.RowKit
attribute [local go_sem ↓] Go.wp_at_zero Go.wp_at_succ
set_option linter.unusedVariables false

theorem align_may {l : List Ag} {q : Int} {j : Nat} (h : Align l q) (hj : j < l.length) : (agAt l j).may := (h.2 j hj).1
theorem meet2_ok {s r : List Ag} {b : Ag} (h0 : 0 < s.length) (hs : ∀ a ∈ s, a.ok) (ht : ∀ a ∈ b :: r, a.ok) : ∀ a ∈ (meet2 s b r).1, a.ok := by
  unfold meet2
  split
  · split
    · intro a ha
      rw [List.mem_append] at ha
      rcases ha with ha | ha
      · rcases List.mem_or_eq_of_mem_set ha with ha | rfl
        · exact hs a ha
        · exact join_ok (hs _ (agg_mem (by omega))) (ht b (by simp))
      · exact ht a (List.mem_cons_of_mem _ ha)
    · intro a ha
      simp at ha
  · intro a ha
    rw [List.mem_append] at ha
    rcases ha with ha | ha
    · exact hs a ha
    · exact ht a ha
theorem meet2_len {s r : List Ag} {b : Ag} : (meet2 s b r).1.length ≤ s.length + (b :: r).length := by
  unfold meet2
  split
  · split
    · simp only [List.length_append, List.length_set, List.length_cons]; omega
    · simp
  · simp

set_option maxHeartbeats 600000 in
theorem rolled_two {g off c : Nat} {s t : Sg} {k : Int} {w : World} (h : Segs w g off [s, t]) (hc : 2 ≤ c) (hm : c ≤ 1000) (hs : s.may) (ht : t.may) (ks : s.tier = k - 1) (kt : t.tier = k - 1) (hk : coarse k) (hk1 : k ≠ 1) (hw : Wid w) :
    Calls Tryz.prog 37 #[.slice (some ⟨g, off, none⟩) 2 c, .int .i64 k] w (Gives w (rollAll [s, t] k)) := by
  have oks : s.ok := by
    obtain ⟨A, n, ca, B, m, cb, hc'⟩ := h 0 (by simp)
    exact hc'.at_.ok
  have okt : t.ok := by
    obtain ⟨A, n, ca, B, m, cb, hc'⟩ := h 1 (by simp)
    exact hc'.at_.ok
  have hk2 : coarse (k - 1) := by unfold coarse at *; omega
  have hA := ((may_split s).1 hs).2.2.2.2
  have hB := ((may_split t).1 ht).2.2.2.2
  rw [if_neg (by unfold coarse at hk; omega), ks] at hA
  rw [if_neg (by unfold coarse at hk; omega), kt] at hB
  obtain ⟨_, a0, a1, a2, _⟩ := hA
  obtain ⟨_, b0, b1, b2, _⟩ := hB
  obtain ⟨b, r, hbr⟩ : ∃ b r, t.ag = b :: r := by
    cases e : t.ag with
    | nil => rw [e] at b0; simp at b0
    | cons b r => exact ⟨b, r, rfl⟩
  have ma : (agAt s.ag (s.ag.length - 1)).may := align_may a2 (by omega)
  have mb : b.may := by have := align_may b2 (j := 0) b0; rw [hbr] at this; exact this
  have m1 := aggsOf_two h hc hm a0 a1 hbr b1 ma mb hk hk2 hw
  have e : rollAll [s, t] k = if (meet2 s.ag b r).2 = 0 then down (meet2 s.ag b r).1 k else ([], (meet2 s.ag b r).2) := by
    unfold rollAll
    rw [if_neg hk1]
    have e2 : [s, t].flatMap Sg.ag = s.ag ++ b :: r := by simp [hbr]
    rw [e2, meet_two a2 (by rw [← hbr]; exact b2) a0]
  have hin := meet2_ok (r := r) (b := b) a0 oks.2.2.2.2.2 (by rw [← hbr]; exact okt.2.2.2.2.2)
  have hlen : (meet2 s.ag b r).1.length ≤ 1000 := by have := meet2_len (s := s.ag) (r := r) (b := b); rw [← hbr] at this; omega
  rw [e]
  have hk64 : In64 k := by unfold coarse at hk; unfold In64; omega
  generalize meet2 s.ag b r = M at *
  obtain ⟨ml, mc⟩ := M
  simp only at m1 hin hlen ⊢
  have m2 : ∀ u v, u.ownsRow w.heap.size 50 7 v ml.length (aggV ml) → Below w.heap.size w u → Calls Tryz.prog 70 #[v, .int .i64 k] u (Gives u (down ml k)) := fun u v ho hb => by
    obtain ⟨A, cap, rfl, hr⟩ := rowOf_own ho hin
    exact down_any k hr hk64 (hw.below hb) hlen
  have M1 := Lib.hid m1
  have M2 := Lib.hid m2
  have HG : Hid (∀ u w' e, Below w.heap.size w u → Gives u (down ml k) e w' → Gives w (down ml k) e w') := Lib.hid (fun u w' e hb ⟨A, cap, h1, h2, h3⟩ => ⟨A, cap, h1, past hb h2, h3⟩)
  generalize down ml k = R at *
  obtain ⟨Q, hQ⟩ : ∃ Q, (if mc = 0 then R else (([] : List Ag), mc)) = Q := ⟨_, rfl⟩
  rw [hQ]
  have HQ := Lib.hid hQ
  have hk1' : (k == 1) = false := by simp [hk1]
  clear m1 m2 hQ h hlen e hin hk64 hw hk1 hk ks kt hs ht oks okt a0 a1 a2 b0 b1 b2 ma mb hbr hk2
  go_enter Tryz.func37, Tryz.ntmps37
  go_wp2_with fail
  refine M1.out.mono ?_
  rintro e w2 ⟨v, rfl, hown, hb⟩
  have HB := Lib.hid hb
  by_cases hz : mc = 0
  case neg =>
    have hz' : (mc == 0) = false := by simpa using hz
    have HF : Hid (Gives w ([], mc) (.returned (.tuple #[.slice none 0 0, .int .i64 mc])) w2) := Lib.hid (gives_none ⟨rfl, hb⟩)
    clear hown hb
    go_wp2
    (try simp only [Exit.inBlock, Exit.then])
    go_ret2
    rw [← HQ.out, if_neg hz]
    exact HF.out
  case pos =>
    subst hz
    have M3 := Lib.hid (M2.out _ _ hown hb)
    clear hown hb
    go_wp2_with fail
    refine M3.out.mono ?_
    rintro e w3 hg
    have hg2 := HG.out _ _ _ HB.out hg
    obtain ⟨A, cap, rfl, hb3, hr3⟩ := hg2
    have HF : Hid (Gives w R (.returned (.tuple #[.slice A R.1.length cap, .int .i64 R.2])) w3) := Lib.hid ⟨A, cap, rfl, hb3, hr3⟩
    clear hg hb3 hr3
    go_wp2
    (try simp only [Exit.inBlock, Exit.then])
    go_ret2
    have hq := HQ.out
    simp only [if_true] at hq
    rw [← hq]
    exact HF.out
end Go.Proofs.YtepancmkopifpaaGreatDoor
set_option maxRecDepth 100000
namespace Go.Proofs.YtepancmkopifpaaGreatDoor
open Go.RowKit
set_option linter.unusedVariables false

theorem rollG_two {g off c : Nat} {s t : Sg} {id k : Int} {w : World} (h : Segs w g off [s, t]) (hc : 2 ≤ c) (hm : c ≤ 1000) (hid : In64 id) (hk : In64 k) (hw : Wid w) :
    Calls Tryz.prog 12 #[.slice (some ⟨g, off, none⟩) 2 c, .int .i64 id, .int .i64 k] w (RollG w (rollS [s, t] id k)) := by
  have oks : s.ok := by
    obtain ⟨A, n, ca, B, m, cb, hc'⟩ := h 0 (by simp)
    exact hc'.at_.ok
  have okt : t.ok := by
    obtain ⟨A, n, ca, B, m, cb, hc'⟩ := h 1 (by simp)
    exact hc'.at_.ok
  refine rollG_any h rfl (by omega) hc hm hid hk hw (fun _ hco hch u hu => ?_)
  obtain ⟨hs, ks, ht, kt, _, _⟩ := hch
  by_cases h1 : k = 1
  · subst h1
    have hA := ((may_split s).1 hs).2.2.2.2
    have hB := ((may_split t).1 ht).2.2.2.2
    rw [if_pos (by omega)] at hA hB
    have a1 := hA.2.2.1
    have b1 := hB.2.2.1
    have e2 : [s, t].flatMap Sg.sm = s.sm ++ t.sm := by simp
    refine rolled_raw (h.below hu) rfl hc hm (by rw [e2, List.length_append]; omega) (by
      rw [e2]
      intro x hx
      rw [List.mem_append] at hx
      rcases hx with hx | hx
      · exact oks.2.2.2.2.1 x hx
      · exact okt.2.2.2.2.1 x hx) (hw.below hu)
  · exact rolled_two (h.below hu) hc hm hs ht ks kt hco h1 (hw.below hu)
end Go.Proofs.YtepancmkopifpaaGreatDoor
