/-
  Seal, Due of a head that may be: what each returns; nothing that was there is written.
-/
import Derived.Test.YtinplchaimejbaaHPut
import Derived.Test.YtinplchaimejbaaHPol
namespace Go.Proofs.Ytinplchaimejbaa
open Go.RowKit
attribute [local go_sem ↓] Go.wp_at_zero Go.wp_at_succ
set_option linter.unusedVariables false

theorem results_seal {fn : Func} {p a b c d : Tmp} {ty : TypeId} (h : fn.results = #[.cell p ty, .tmp a, .tmp b, .tmp c, .tmp d]) (tmps : Array Value) (P : Program) (w : World) :
    (results fn tmps).run P w =
      ((asAddr (tmps.getD p undef)).run P w).andThen fun x w₁ => ((loadVar ty x).run P w₁).andThen fun v w₂ => .ok (.tuple #[v, tmps.getD a undef, tmps.getD b undef, tmps.getD c undef, tmps.getD d undef]) w₂ := by
  simp only [results, h]
  simp [Sem.run_bind, Result.andThen]
theorem past2 (w : World) (o o' : Obj) : Below w.heap.size w ((w.alloc o).alloc o') := past (below_box _ _) (below_box _ _)

set_option maxRecDepth 100000 in
set_option maxHeartbeats 1000000 in
theorem seal_none {S : Int} {cap : Nat} {A : Option Addr} {w : World} (hr : Row w A cap []) (hm : Hd.may ⟨S, []⟩) :
    Calls Try.prog 14 #[.agg #[.int .i64 S, .slice A 0 cap]] w fun e w' => ∃ A' cap', e = .returned (.tuple #[.agg #[.int .i64 S, .slice A' 0 cap'], .slice none 0 0, .int .i64 0, .int .i64 0, .int .i64 9]) ∧ Out w w' w.heap.size A' cap' [] := by
  have hS : In64 S := by have := hm.1; have := hm.2.1; simp only at *; unfold In64; omega
  have m1 := fun w' (h : Below w.heap.size w w') => mayH_any (n := 0) hS (hr.below h) rfl
  simp only [decide_eq_true hm] at m1
  have M1 := Lib.hid m1
  have MO := Lib.hid (fun w' (h : Below w.heap.size w w') => own_any (S := S) (n := 0) (hr.below h) rfl (by omega))
  have HBB := Lib.hid (past2 w)
  clear m1 hr hm hS
  go_enter Try.func14, Try.ntmps14
  go_wp2_with fail
  refine (M1.out _ (HBB.out _ _)).mono ?_
  rintro e w2 ⟨rfl, hb2⟩
  have hv0 := ((HVar.new w (.int .i64 S) (.slice A 0 cap) 25).below (below_box _ (.cells #[.int .i64 0, .slice none 0 0] 25))).below hb2
  have hv1 := (HVar.new (w.alloc (.cells #[.int .i64 S, .slice A 0 cap] 25)) (.int .i64 0) (.slice none 0 0) 25).below hb2
  have HB2 := Lib.hid (past (HBB.out _ _) hb2)
  have hz := hb2.size
  simp only [World.alloc, Array.size_push] at hv1 hz
  have HV1 := Lib.hid hv1
  have HZ := Lib.hid hz
  obtain ⟨c0, c1, f0, f1⟩ := hv0
  clear hb2 HBB M1 hv1 hz
  go_wp2_with fail
  refine (MO.out _ HB2.out).mono ?_
  rintro e w3 ⟨A', cap', rfl, hout⟩
  have HO := Lib.hid (hout.start HB2.out)
  obtain ⟨x0, x1, y0, y1⟩ := HV1.out.below hout.below
  clear hout c0 c1 f0 f1
  go_wp2
  (try simp only [Exit.inBlock, Exit.then])
  refine bodyPost_ret (v := .tuple #[.agg #[.int .i64 S, .slice A' 0 cap'], .slice none 0 0, .int .i64 0, .int .i64 0, .int .i64 9]) ?_ rfl ⟨A', cap', rfl, ?_⟩
  · rw [results_seal rfl]
    go_simp
  · have hz := HZ.out
    exact ((HO.out.set_ _ _ (by simp only; omega) (by simp only; omega)).set_ _ _ (by simp only; omega) (by simp only; omega)).low (by omega)

set_option maxRecDepth 100000 in
set_option maxHeartbeats 1000000 in
theorem seal_some {S : Int} {n cap : Nat} {A : Option Addr} {l : List (Int × Int)} {w : World} (hr : Row w A cap l) (hn : l.length = n) (h0 : 0 < n) (hm : Hd.may ⟨S, l⟩) :
    Calls Try.prog 14 #[.agg #[.int .i64 S, .slice A n cap]] w fun e w' => ∃ A' cap', e = .returned (.tuple #[.agg #[.int .i64 (lastT l + 1), .slice none 0 0], .slice A' n cap', .int .i64 S, .int .i64 (lastT l + 1), .int .i64 0]) ∧ Out w w' w.heap.size A' cap' l := by
  have hS : In64 S := by have := hm.1; have := hm.2.1; simp only at *; unfold In64; omega
  have h64 : n ≤ 64 := by have := hm.2.2.2.1; simp only at *; omega
  have m1 := fun w' (h : Below w.heap.size w w') => mayH_any hS (hr.below h) hn
  simp only [decide_eq_true hm] at m1
  have M1 := Lib.hid m1
  have MC := Lib.hid (fun w' (h : Below w.heap.size w w') => clone_any (hr.below h) hn (by omega))
  have HBB := Lib.hid (past2 w)
  obtain ⟨b, off, hA, hcell⟩ := hr.samps.2 (by omega)
  subst hA
  have hq := (hcell (n - 1) (by omega)).1
  obtain ⟨T, hT⟩ : ∃ T, T = lastT l := ⟨_, rfl⟩
  have hT2 : (l.getD (n - 1) (0, 0)).1 = T := by rw [hT, lastT, hn]
  rw [hT2] at hq
  have hTb := hm.2.2.2.2 (l.getD (n - 1) (0, 0)) (sample_mem (by rw [hn]; omega))
  rw [hT2] at hTb
  simp only at hTb
  have hS0 := hm.1
  simp only at hS0
  rw [← hT]
  have hT1 := Lib.hid hT
  have hTw : IntKind.i64.wrap (T + 1) = T + 1 := by rw [IntKind.wrap_i64]; omega
  have HQ := Lib.hid hq
  have HN := Lib.hid hn
  clear m1 hr hm hS hcell hq hT hT2 hn
  have i0 : ((n : Int) == 0) = false := by simp; omega
  have i1 : (1 : Int) ≤ (n : Int) := by omega
  have i3 : (0 : Int) ≤ (n : Int) - 1 := by omega
  have i4 : (n : Int) - 1 < (n : Int) := by omega
  have i5 : ((n : Int) - 1).toNat = n - 1 := by omega
  have i6 : IntKind.i64.wrap ((n : Int) - 1) = (n : Int) - 1 := by rw [IntKind.wrap_i64]; omega
  go_enter Try.func14, Try.ntmps14
  go_wp2_with fail
  refine (M1.out _ (HBB.out _ _)).mono ?_
  rintro e w2 ⟨rfl, hb2⟩
  have hv0 := ((HVar.new w (.int .i64 S) (.slice (some ⟨b, off, none⟩) n cap) 25).below (below_box _ (.cells #[.int .i64 0, .slice none 0 0] 25))).below hb2
  have hv1 := (HVar.new (w.alloc (.cells #[.int .i64 S, .slice (some ⟨b, off, none⟩) n cap] 25)) (.int .i64 0) (.slice none 0 0) 25).below hb2
  have HB2 := Lib.hid (past (HBB.out _ _) hb2)
  have hz := hb2.size
  simp only [World.alloc, Array.size_push] at hv1 hz
  have HV0 := Lib.hid hv0
  have HV1 := Lib.hid hv1
  have HZ := Lib.hid hz
  have q : w2.cell? ⟨b, off + (n - 1) * 2, none⟩ = some (.int .i64 T) := by rw [HB2.out.cell (World.block_lt_of_cell? w _ HQ.out)]; exact HQ.out
  obtain ⟨c0, c1, f0, f1⟩ := hv0
  clear hb2 HBB M1 hv1 hz HQ
  go_upto_region 6 with fail
  clear q
  have HST : Hid (∀ w', Below w2.heap.size w2 w' → w'.cell? ⟨w.heap.size, 0, none⟩ = some (.int .i64 S) ∧ w'.cell? ⟨w.heap.size, 1, none⟩ = some (.slice (some ⟨b, off, none⟩) n cap)) := Lib.hid (fun w' h => ⟨(HV0.out.below h).c0, (HV0.out.below h).c1⟩)
  have HBD : Hid (∀ m, Below w2.heap.size w2 (w2.drewN m)) := Lib.hid (fun m => belowN _ _)
  have HSS : Hid (∀ (w' : World) (u u' : Value), (w'.cell? ⟨w.heap.size, 0, none⟩ = some (.int .i64 S) ∧ w'.cell? ⟨w.heap.size, 1, none⟩ = some (.slice (some ⟨b, off, none⟩) n cap)) →
      (((w'.setCell ⟨w.heap.size + 1, 0, none⟩ u).setCell ⟨w.heap.size + 1, 1, none⟩ u').cell? ⟨w.heap.size, 0, none⟩ = some (.int .i64 S) ∧ ((w'.setCell ⟨w.heap.size + 1, 0, none⟩ u).setCell ⟨w.heap.size + 1, 1, none⟩ u').cell? ⟨w.heap.size, 1, none⟩ = some (.slice (some ⟨b, off, none⟩) n cap))) := Lib.hid (fun w' u u' ⟨h0, h1⟩ => by
    have e : ∀ a : Addr, a.block ≠ w.heap.size + 1 → ((w'.setCell ⟨w.heap.size + 1, 0, none⟩ u).setCell ⟨w.heap.size + 1, 1, none⟩ u').cell? a = w'.cell? a := fun a ha =>
      (World.cell?_of_block (Below.heap_setCell _ _ _ _ (by simp only; omega))).trans (World.cell?_of_block (Below.heap_setCell _ _ _ _ (by simp only; omega)))
    rw [e _ (by simp only; omega), e _ (by simp only; omega)]
    exact ⟨h0, h1⟩)
  go_region_held3 (fun w' => w'.cell? ⟨w.heap.size, 0, none⟩ = some (.int .i64 S) ∧ w'.cell? ⟨w.heap.size, 1, none⟩ = some (.slice (some ⟨b, off, none⟩) n cap))
    (first
      | exact hS2
      | exact HSS.out _ _ _ hS2
      | exact HST.out _ (HBD.out 1)
      | exact HST.out _ (Below.refl _ _))
    (first
      | (go_at_call 25; refine (MC.out _ (past HB2.out (HBD.out 1))).mono ?_; rintro e wt ⟨A', cap', rfl, hout⟩; have hS2 := HST.out _ (past (HBD.out 1) hout.below); obtain ⟨x0, x1, y0, y1⟩ := HV1.out.below (past (HBD.out 1) hout.below)))
  have HO := Lib.hid (hout.start (past HB2.out (HBD.out 1)))
  clear hout hS2 HSS HST HBD MC c0 c1 f0 f1
  go_wp2
  refine bodyPost_ret (v := .tuple #[.agg #[.int .i64 (T + 1), .slice none 0 0], .slice A' n cap', .int .i64 S, .int .i64 (T + 1), .int .i64 0]) ?_ rfl ⟨A', cap', rfl, ?_⟩
  · rw [results_seal rfl]
    go_simp
  · have hz := HZ.out
    have hz2 : (w2.drewN 1).heap.size = w2.heap.size := rfl
    exact ((HO.out.set_ _ _ (by simp only; omega) (by simp only; omega)).set_ _ _ (by simp only; omega) (by simp only; omega)).low (by omega)

/-- A policy's variable. -/
structure PVar (w : World) (g : Nat) (a0 a1 a2 a3 cn sp : Int) : Prop where
  c0 : w.cell? ⟨g, 0, none⟩ = some (.int .i64 a0)
  c1 : w.cell? ⟨g, 1, none⟩ = some (.int .i64 a1)
  c2 : w.cell? ⟨g, 2, none⟩ = some (.int .i64 a2)
  c3 : w.cell? ⟨g, 3, none⟩ = some (.int .i64 a3)
  c4 : w.cell? ⟨g, 4, none⟩ = some (.int .i64 cn)
  c5 : w.cell? ⟨g, 5, none⟩ = some (.int .i64 sp)
theorem PVar.new (w : World) (a0 a1 a2 a3 cn sp : Int) (t : TypeId) : PVar (w.alloc (.cells #[.int .i64 a0, .int .i64 a1, .int .i64 a2, .int .i64 a3, .int .i64 cn, .int .i64 sp] t)) w.heap.size a0 a1 a2 a3 cn sp := ⟨by simp, by simp, by simp, by simp, by simp, by simp⟩
theorem PVar.below {w w' : World} {g : Nat} {a0 a1 a2 a3 cn sp : Int} (h : PVar w g a0 a1 a2 a3 cn sp) (hb : Below w.heap.size w w') : PVar w' g a0 a1 a2 a3 cn sp := by
  have hl : g < w.heap.size := World.block_lt_of_cell? w _ h.c0
  exact ⟨by rw [hb.cell hl]; exact h.c0, by rw [hb.cell hl]; exact h.c1, by rw [hb.cell hl]; exact h.c2, by rw [hb.cell hl]; exact h.c3, by rw [hb.cell hl]; exact h.c4, by rw [hb.cell hl]; exact h.c5⟩

set_option maxRecDepth 100000 in
set_option maxHeartbeats 1000000 in
theorem due_none {S now : Int} {cap : Nat} {A : Option Addr} {p : Pol} {w : World} (hr : Row w A cap []) (hm : Hd.may ⟨S, []⟩) (hp : p.may) :
    Calls Try.prog 17 #[.agg #[.int .i64 S, .slice A 0 cap], p.val, .int .i64 now] w fun e w' => e = .returned (.bool false) ∧ Below w.heap.size w w' := by
  have hS : In64 S := by have := hm.1; have := hm.2.1; simp only at *; unfold In64; omega
  have hok : p.ok := by unfold Pol.may Pol.ages ageOk at hp; unfold Pol.ok In64; omega
  have m1 := fun w' (h : Below w.heap.size w w') => mayH_any (n := 0) hS (hr.below h) rfl
  simp only [decide_eq_true hm] at m1
  have M1 := Lib.hid m1
  have m2 := fun w' => pmay_any p w' hok
  simp only [decide_eq_true hp] at m2
  obtain ⟨a0, a1, a2, a3, cn, sp⟩ := p
  unfold Pol.val at m2 ⊢
  simp only at *
  have M2 := Lib.hid m2
  have HBB := Lib.hid (past2 w)
  clear m1 m2 hr hm hS hp hok
  go_enter Try.func17, Try.ntmps17
  go_wp2_with fail
  refine (M1.out _ (HBB.out _ _)).mono ?_
  rintro e w2 ⟨rfl, hb2⟩
  have hv0 := ((HVar.new w (.int .i64 S) (.slice A 0 cap) 25).below (below_box _ (.cells #[.int .i64 a0, .int .i64 a1, .int .i64 a2, .int .i64 a3, .int .i64 cn, .int .i64 sp] 40))).below hb2
  have hv1 := (PVar.new (w.alloc (.cells #[.int .i64 S, .slice A 0 cap] 25)) a0 a1 a2 a3 cn sp 40).below hb2
  have HB2 := Lib.hid (past (HBB.out _ _) hb2)
  simp only [World.alloc, Array.size_push] at hv1
  have HV0 := Lib.hid hv0
  obtain ⟨p0, p1, p2, p3, p4, p5⟩ := hv1
  clear hb2 HBB M1 hv0
  go_wp2_with fail
  refine (M2.out _).mono ?_
  rintro e w3 ⟨rfl, hb3⟩
  have HB3 := Lib.hid (past HB2.out hb3)
  obtain ⟨c0, c1, f0, f1⟩ := HV0.out.below hb3
  clear hb3 HB2 p0 p1 p2 p3 p4 p5 HV0
  go_wp2
  (try simp only [Exit.inBlock, Exit.then])
  go_ret
  exact ⟨rfl, HB3.out⟩

set_option maxRecDepth 100000 in
set_option maxHeartbeats 1000000 in
theorem due_some {S now t0 : Int} {n cap : Nat} {A : Option Addr} {l : List (Int × Int)} {p : Pol} {w : World} (hr : Row w A cap l) (hn : l.length = n) (h0 : 0 < n) (ht0 : (l.getD 0 (0, 0)).1 = t0) (hm : Hd.may ⟨S, l⟩) (hp : p.may) :
    Calls Try.prog 17 #[.agg #[.int .i64 S, .slice A n cap], p.val, .int .i64 now] w fun e w' => e = .returned (.bool (decide (p.cn ≤ n) || decide (t0 + p.sp ≤ now))) ∧ Below w.heap.size w w' := by
  have hS : In64 S := by have := hm.1; have := hm.2.1; simp only at *; unfold In64; omega
  have hok : p.ok := by unfold Pol.may Pol.ages ageOk at hp; unfold Pol.ok In64; omega
  have h64 : n ≤ 64 := by have := hm.2.2.2.1; simp only at *; omega
  have m1 := fun w' (h : Below w.heap.size w w') => mayH_any hS (hr.below h) hn
  simp only [decide_eq_true hm] at m1
  have M1 := Lib.hid m1
  have m2 := fun w' => pmay_any p w' hok
  simp only [decide_eq_true hp] at m2
  obtain ⟨b, off, hA, hcell⟩ := hr.samps.2 (by omega)
  subst hA
  have hq := (hcell 0 (by omega)).1
  rw [ht0, Nat.zero_mul, Nat.add_zero] at hq
  have hTb := hm.2.2.2.2 (l.getD 0 (0, 0)) (sample_mem (by rw [hn]; omega))
  rw [ht0] at hTb
  simp only at hTb
  have hS0 := hm.1
  simp only at hS0
  have hsp := hp.2.2
  obtain ⟨a0, a1, a2, a3, cn, sp⟩ := p
  unfold Pol.val at m2 ⊢
  simp only at *
  have hTw : IntKind.i64.wrap (t0 + sp) = t0 + sp := by rw [IntKind.wrap_i64]; omega
  have M2 := Lib.hid m2
  have HQ := Lib.hid hq
  have HBB := Lib.hid (past2 w)
  clear m1 m2 hr hm hS hp hok hcell hq ht0 hn hsp hTb hS0
  have i0 : ((n : Int) == 0) = false := by simp; omega
  have i1 : (0 : Int) < (n : Int) := by omega
  go_enter Try.func17, Try.ntmps17
  go_wp2_with fail
  refine (M1.out _ (HBB.out _ _)).mono ?_
  rintro e w2 ⟨rfl, hb2⟩
  have hv0 := ((HVar.new w (.int .i64 S) (.slice (some ⟨b, off, none⟩) n cap) 25).below (below_box _ (.cells #[.int .i64 a0, .int .i64 a1, .int .i64 a2, .int .i64 a3, .int .i64 cn, .int .i64 sp] 40))).below hb2
  have hv1 := (PVar.new (w.alloc (.cells #[.int .i64 S, .slice (some ⟨b, off, none⟩) n cap] 25)) a0 a1 a2 a3 cn sp 40).below hb2
  have HB2 := Lib.hid (past (HBB.out _ _) hb2)
  simp only [World.alloc, Array.size_push] at hv1
  have HV0 := Lib.hid hv0
  have HV1 := Lib.hid hv1
  obtain ⟨p0, p1, p2, p3, p4, p5⟩ := hv1
  clear hb2 HBB M1 hv0
  go_wp2_with fail
  refine (M2.out _).mono ?_
  rintro e w3 ⟨rfl, hb3⟩
  have HB3 := Lib.hid (past HB2.out hb3)
  obtain ⟨c0, c1, f0, f1⟩ := HV0.out.below hb3
  have q4 := (HV1.out.below hb3).c4
  have q5 := (HV1.out.below hb3).c5
  have q : w3.cell? ⟨b, off, none⟩ = some (.int .i64 t0) := by rw [HB3.out.cell (World.block_lt_of_cell? w _ HQ.out)]; exact HQ.out
  clear hb3 HB2 p0 p1 p2 p3 p4 p5 HV0 HV1 HQ M2
  go_upto_region 3 with fail
  by_cases h1 : cn ≤ (n : Int)
  · have h1' : decide (cn ≤ (n : Int)) = true := decide_eq_true h1
    go_quiet (fail)
    go_wp2
    go_ret
    exact ⟨by (try rw [h1']); rfl, past HB3.out (belowN _ _)⟩
  · have h1' : decide (cn ≤ (n : Int)) = false := decide_eq_false h1
    go_quiet (fail)
    go_wp2
    go_ret
    exact ⟨by (try rw [h1']); rfl, past HB3.out (belowN _ _)⟩
end Go.Proofs.Ytinplchaimejbaa
