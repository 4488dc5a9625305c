/-
  The document's own MayHead, PutHead, Seal of a head that may be: what each returns; nothing that was there is written.
-/
import Derived.Test.YtinplchaimejbaaHArgs
import Derived.Test.YtinplchaimejbaaRRise
import Derived.Test.YtinplchaimejbaaBSame
namespace Go.Proofs.Ytinplchaimejbaa
open Go.RowKit
attribute [local go_sem ↓] Go.wp_at_zero Go.wp_at_succ
set_option linter.unusedVariables false

set_option maxRecDepth 100000 in
set_option maxHeartbeats 1000000 in
theorem rmayH_yes {S : Int} {n cap : Nat} {A : Option Addr} {l : List (Int × Int)} {w : World} (hr : Row w A cap l) (hn : l.length = n) (hm : Hd.may ⟨S, l⟩) :
    Calls Try.prog 23 #[.agg #[.int .i64 S, .slice A n cap]] w fun e w' => e = .returned (.bool true) ∧ Below w.heap.size w w' := by
  have m1 := fun w' (h : Below w.heap.size w w') => rrising_any hn (hr.samps.below h) (by rw [← hn]; exact hr.le) hr.max
  simp only [decide_eq_true hm.2.2.1] at m1
  have M1 := Lib.hid m1
  have c1 : S ≥ 0 := hm.1
  have c2 : S ≤ 1099511627776 := hm.2.1
  have c3 : (n : Int) ≤ 64 := by have := hm.2.2.2.1; simp only at this; omega
  clear m1
  by_cases h0 : n = 0
  · subst h0
    clear hr hn hm
    go_enter Try.func23, Try.ntmps23
    go_upto_region 1 with fail
    have HB1 := Lib.hid (below_box w (.cells #[.int .i64 S, .slice A 0 cap] 25))
    have hv := HVar.new w (.int .i64 S) (.slice A 0 cap) 25
    generalize w.alloc (.cells #[.int .i64 S, .slice A 0 cap] 25) = w1 at *
    generalize hg : w.heap.size = g at hv
    have D0 : ∀ u : SubB w1, u.w.cell? ⟨g, 0, none⟩ = some (.int .i64 S) := fun u => (hv.below u.le).c0
    have D1 : ∀ u : SubB w1, u.w.cell? ⟨g, 1, none⟩ = some (.slice A 0 cap) := fun u => (hv.below u.le).c1
    clear hv
    refine wp_region_calm (by kernel_rfl) (by kernel_rfl) ?_
    (try simp only [List.append])
    repeat (go_big_quiet_step ((first | (go_at_call 29; exact calm_call (M1.out _ (past HB1.out (SubB.le _)))))))
    refine wpQuiet_nil ?_
    rintro _ ⟨u, rfl⟩
    clear D0 D1
    go_wp2
    go_ret
    exact ⟨rfl, past HB1.out u.le⟩
  · have hpos : 0 < n := by omega
    obtain ⟨b, off, hA, hcell⟩ := hr.samps.2 (by omega)
    subst hA
    have hq0 := (hcell 0 (by omega)).1
    have hq1 := (hcell (n - 1) (by omega)).1
    rw [Nat.zero_mul, Nat.add_zero] at hq0
    have h5 := hm.2.2.2.2
    have hb0 : (l.getD 0 (0, 0)).1 ≥ S := (h5 _ (sample_mem (by show 0 < l.length; omega))).1
    have hb1 : (l.getD (n - 1) (0, 0)).1 < 1099511627776 := (h5 _ (sample_mem (by show n - 1 < l.length; omega))).2
    generalize (l.getD 0 (0, 0)).1 = t0 at hq0 hb0
    generalize (l.getD (n - 1) (0, 0)).1 = t1 at hq1 hb1
    clear hr hn hm h5 hcell
    have h0i : (0 : Int) < (n : Int) := by omega
    have n0 : ((n : Int) == 0) = false := by simp; omega
    have i1 : (1 : Int) ≤ (n : Int) := by omega
    have i3 : (0 : Int) ≤ (n : Int) - 1 := by omega
    have i4 : (n : Int) - 1 < (n : Int) := by omega
    have i5 : ((n : Int) - 1).toNat = n - 1 := by omega
    have i6 : IntKind.i64.wrap ((n : Int) - 1) = (n : Int) - 1 := by rw [IntKind.wrap_i64]; omega
    have k1 : decide (t0 ≥ S) = true := decide_eq_true hb0
    have k2 : decide (t1 < 1099511627776) = true := decide_eq_true hb1
    go_enter Try.func23, Try.ntmps23
    go_upto_region 1 with fail
    have HB1 := Lib.hid (below_box w (.cells #[.int .i64 S, .slice (some ⟨b, off, none⟩) n cap] 25))
    have hv := HVar.new w (.int .i64 S) (.slice (some ⟨b, off, none⟩) n cap) 25
    have Q0 : ∀ u : SubB (w.alloc (.cells #[.int .i64 S, .slice (some ⟨b, off, none⟩) n cap] 25)), u.w.cell? ⟨b, off, none⟩ = some (.int .i64 t0) := fun u => by rw [(past HB1.out u.le).cell (World.block_lt_of_cell? w _ hq0)]; exact hq0
    have Q1 : ∀ u : SubB (w.alloc (.cells #[.int .i64 S, .slice (some ⟨b, off, none⟩) n cap] 25)), u.w.cell? ⟨b, off + (n - 1) * 2, none⟩ = some (.int .i64 t1) := fun u => by rw [(past HB1.out u.le).cell (World.block_lt_of_cell? w _ hq1)]; exact hq1
    generalize w.alloc (.cells #[.int .i64 S, .slice (some ⟨b, off, none⟩) n cap] 25) = w1 at *
    have D0 : ∀ u : SubB w1, u.w.cell? ⟨w.heap.size, 0, none⟩ = some (.int .i64 S) := fun u => (hv.below u.le).c0
    have D1 : ∀ u : SubB w1, u.w.cell? ⟨w.heap.size, 1, none⟩ = some (.slice (some ⟨b, off, none⟩) n cap) := fun u => (hv.below u.le).c1
    clear hv hq0 hq1
    refine wp_region_calm (by kernel_rfl) (by kernel_rfl) ?_
    (try simp only [List.append])
    repeat (go_big_quiet_step ((first | (go_at_call 29; exact calm_call (M1.out _ (past HB1.out (SubB.le _)))))))
    refine wpQuiet_nil ?_
    rintro _ ⟨u, rfl⟩
    clear D0 D1 Q0 Q1
    go_wp2
    go_ret
    exact ⟨rfl, past HB1.out u.le⟩
end Go.Proofs.Ytinplchaimejbaa
