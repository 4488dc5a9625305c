/-
  The document's own Seal, and same of two heads: what each returns; nothing that was there is written.
-/
import Derived.Test.YtinplchaimejbaaHRef
namespace Go.Proofs.Ytinplchaimejbaa
open Go.RowKit
attribute [local go_sem ↓] Go.wp_at_zero Go.wp_at_succ
set_option linter.unusedVariables false

set_option maxRecDepth 100000 in
set_option maxHeartbeats 1000000 in
theorem rseal_none {S : Int} {cap : Nat} {A : Option Addr} {w : World} (hr : Row w A cap []) (hm : Hd.may ⟨S, []⟩) :
    Calls Try.prog 15 #[.agg #[.int .i64 S, .slice A 0 cap]] w fun e w' => e = .returned (.tuple #[.agg #[.int .i64 S, .slice A 0 cap], .slice none 0 0, .int .i64 0, .int .i64 0, .int .i64 9]) ∧ Below w.heap.size w w' := by
  have M1 := Lib.hid (fun w' (h : Below w.heap.size w w') => rmayH_yes (n := 0) (hr.below h) rfl hm)
  have HBB := Lib.hid (past2 w)
  clear hr hm
  go_enter Try.func15, Try.ntmps15
  go_wp2_with fail
  refine (M1.out _ (HBB.out _ _)).mono ?_
  rintro e w2 ⟨rfl, hb2⟩
  have hv0 := ((HVar.new w (.int .i64 S) (.slice A 0 cap) 25).below (below_box _ (.cells #[.int .i64 0, .slice none 0 0] 25))).below hb2
  have hv1 := (HVar.new (w.alloc (.cells #[.int .i64 S, .slice A 0 cap] 25)) (.int .i64 0) (.slice none 0 0) 25).below hb2
  have HB2 := Lib.hid (past (HBB.out _ _) hb2)
  simp only [World.alloc, Array.size_push] at hv1
  obtain ⟨c0, c1, f0, f1⟩ := hv0
  obtain ⟨x0, x1, y0, y1⟩ := hv1
  clear hb2 HBB M1
  go_wp2
  (try simp only [Exit.inBlock, Exit.then])
  refine bodyPost_ret (v := .tuple #[.agg #[.int .i64 S, .slice A 0 cap], .slice none 0 0, .int .i64 0, .int .i64 0, .int .i64 9]) ?_ rfl ⟨rfl, ?_⟩
  · rw [results_seal rfl]
    go_simp
  · exact ((HB2.out.setCell (by simp only; omega) _).setCell (by simp only; omega) _)

set_option maxRecDepth 100000 in
set_option maxHeartbeats 1000000 in
theorem rseal_some {S : Int} {n cap : Nat} {A : Option Addr} {l : List (Int × Int)} {w : World} (hr : Row w A cap l) (hn : l.length = n) (h0 : 0 < n) (hm : Hd.may ⟨S, l⟩) :
    Calls Try.prog 15 #[.agg #[.int .i64 S, .slice A n cap]] w fun e w' => e = .returned (.tuple #[.agg #[.int .i64 (lastT l + 1), .slice none 0 0], .slice A n cap, .int .i64 S, .int .i64 (lastT l + 1), .int .i64 0]) ∧ Below w.heap.size w w' := by
  have h64 : n ≤ 64 := by have := hm.2.2.2.1; simp only at *; omega
  have M1 := Lib.hid (fun w' (h : Below w.heap.size w w') => rmayH_yes (hr.below h) hn hm)
  have HBB := Lib.hid (past2 w)
  obtain ⟨b, off, hA, hcell⟩ := hr.samps.2 (by omega)
  subst hA
  have hq := (hcell (n - 1) (by omega)).1
  obtain ⟨T, hT⟩ : ∃ T, T = lastT l := ⟨_, rfl⟩
  have hT2 : (l.getD (n - 1) (0, 0)).1 = T := by rw [hT, lastT, hn]
  rw [hT2] at hq
  have hTb := hm.2.2.2.2 (l.getD (n - 1) (0, 0)) (sample_mem (by rw [hn]; omega))
  rw [hT2] at hTb
  simp only at hTb
  have hS0 := hm.1
  simp only at hS0
  rw [← hT]
  have hTw : IntKind.i64.wrap (T + 1) = T + 1 := by rw [IntKind.wrap_i64]; omega
  have HQ := Lib.hid hq
  clear hr hm hcell hq hT hT2 hn
  have i0 : ((n : Int) == 0) = false := by simp; omega
  have i1 : (1 : Int) ≤ (n : Int) := by omega
  have i3 : (0 : Int) ≤ (n : Int) - 1 := by omega
  have i4 : (n : Int) - 1 < (n : Int) := by omega
  have i5 : ((n : Int) - 1).toNat = n - 1 := by omega
  have i6 : IntKind.i64.wrap ((n : Int) - 1) = (n : Int) - 1 := by rw [IntKind.wrap_i64]; omega
  go_enter Try.func15, Try.ntmps15
  go_wp2_with fail
  refine (M1.out _ (HBB.out _ _)).mono ?_
  rintro e w2 ⟨rfl, hb2⟩
  have hv0 := ((HVar.new w (.int .i64 S) (.slice (some ⟨b, off, none⟩) n cap) 25).below (below_box _ (.cells #[.int .i64 0, .slice none 0 0] 25))).below hb2
  have hv1 := (HVar.new (w.alloc (.cells #[.int .i64 S, .slice (some ⟨b, off, none⟩) n cap] 25)) (.int .i64 0) (.slice none 0 0) 25).below hb2
  have HB2 := Lib.hid (past (HBB.out _ _) hb2)
  simp only [World.alloc, Array.size_push] at hv1
  have HV1 := Lib.hid hv1
  have q : w2.cell? ⟨b, off + (n - 1) * 2, none⟩ = some (.int .i64 T) := by rw [HB2.out.cell (World.block_lt_of_cell? w _ HQ.out)]; exact HQ.out
  have Q := Lib.hid q
  obtain ⟨c0, c1, f0, f1⟩ := hv0
  clear hb2 HBB M1 hv1 HQ q
  go_upto_region 5 with fail
  go_quiet (fail)
  have HB3 := Lib.hid (past HB2.out (belowN w2 nq))
  obtain ⟨x0, x1, y0, y1⟩ := HV1.out.below (belowN w2 nq)
  have q : (w2.drewN nq).cell? ⟨b, off + (n - 1) * 2, none⟩ = some (.int .i64 T) := Q.out
  clear c0 c1 f0 f1 HV1 Q HB2
  generalize w2.drewN nq = w3 at *
  go_wp2
  (try simp only [Exit.inBlock, Exit.then])
  refine bodyPost_ret (v := .tuple #[.agg #[.int .i64 (T + 1), .slice none 0 0], .slice (some ⟨b, off, none⟩) n cap, .int .i64 S, .int .i64 (T + 1), .int .i64 0]) ?_ rfl ⟨rfl, ?_⟩
  · rw [results_seal rfl]
    go_simp
  · exact ((HB3.out.setCell (by simp only; omega) _).setCell (by simp only; omega) _)

set_option maxRecDepth 100000 in
set_option maxHeartbeats 1000000 in
theorem lsame_any {S : Int} {n cap cap2 : Nat} {A B : Option Addr} {l : List (Int × Int)} {w : World} (hr : Row w A cap l) (hr2 : Row w B cap2 l) (hn : l.length = n) :
    Calls Try.prog 13 #[.agg #[.int .i64 S, .slice A n cap], .agg #[.int .i64 S, .slice B n cap2]] w fun e w' => e = .returned (.bool true) ∧ Below w.heap.size w w' := by
  have M1 := Lib.hid (fun w' (h : Below w.heap.size w w') => sames_any hn (hr.below h).samps (hr2.below h).samps (by rw [← hn]; exact hr.le) (by rw [← hn]; exact hr2.le) hr.max hr2.max)
  have HBB := Lib.hid (past2 w)
  clear hr hr2 hn
  go_enter Try.func13, Try.ntmps13
  go_wp2_with fail
  refine (M1.out _ (HBB.out _ _)).mono ?_
  rintro e w2 ⟨rfl, hb2⟩
  have HB2 := Lib.hid (past (HBB.out _ _) hb2)
  clear hb2
  go_wp2
  go_ret
  exact ⟨rfl, HB2.out⟩
end Go.Proofs.Ytinplchaimejbaa
