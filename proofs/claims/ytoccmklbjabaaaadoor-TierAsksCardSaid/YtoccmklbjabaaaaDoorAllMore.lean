/-
  All of one sample, of none, of any; what told tells: true, and nothing that was there is written.
-/
import Derived.Test.YtoccmklbjabaaaaDoorAll
namespace Go.Proofs.YtoccmklbjabaaaaDoor
open Go.RowKit
attribute [local go_sem ↓] Go.wp_at_zero Go.wp_at_succ

set_option maxRecDepth 100000 in
set_option maxHeartbeats 2000000 in
theorem all_one (b off cap : Nat) (t0 v0 : Int) (f : Int) (w : World) (hv : In64 v0) (hc : 1 ≤ cap) (hm : cap ≤ maxLen) (hf : Ag.begin_ f)
    (c0 : w.cell? ⟨b, off, none⟩ = some (.int .i64 t0)) (c1 : w.cell? ⟨b, off + 1, none⟩ = some (.int .i64 v0)) :
    Calls Tryd.prog 26 #[.slice (some ⟨b, off, none⟩) 1 cap, .int .i64 f] w fun e w' => e = .returned (.tuple #[(Ag.one v0 f).val, .int .i64 0]) ∧ Below w.heap.size w w' := by
  unfold maxLen at hm
  have hf64 : In64 f := by
    unfold Ag.begin_ at hf
    unfold In64
    omega
  have m1 := fun w => begin_any f w hf64
  rw [decide_eq_true hf] at m1
  have M1 := Lib.hid m1
  have m2 := fun w => one_any t0 v0 f w hv hf64
  have M2 := Lib.hid m2
  have hlt : b < w.heap.size := World.block_lt_of_cell? w _ c0
  have HZ : Hid (Holds (w.alloc (.cells #[.int .i64 0, .int .i64 0, .int .i64 0, .int .i64 0, .int .i64 0, .int .i64 0, .int .i64 0] 43)) w.heap.size Ag.zero ∧ Free (w.alloc (.cells #[.int .i64 0, .int .i64 0, .int .i64 0, .int .i64 0, .int .i64 0, .int .i64 0, .int .i64 0] 43)) w.heap.size ∧
      Below w.heap.size w (w.alloc (.cells #[.int .i64 0, .int .i64 0, .int .i64 0, .int .i64 0, .int .i64 0, .int .i64 0, .int .i64 0] 43)) ∧ w.heap.size < (w.alloc (.cells #[.int .i64 0, .int .i64 0, .int .i64 0, .int .i64 0, .int .i64 0, .int .i64 0, .int .i64 0] 43)).heap.size) := Lib.hid (by
    refine ⟨?_, ?_, (Below.refl _ _).alloc (Nat.le_refl _) _, by simp⟩
    · unfold Holds Ag.zero
      simp
    · unfold Free
      simp)
  generalize ha : Ag.one v0 f = a at *
  unfold Ag.val at *
  clear m1 m2 hf hf64 ha hv
  by_cases h1 : cap = 1
  · subst h1
    go_enter Tryd.func26, Tryd.ntmps26
    go_wp2
    go_step3
    go_wp2_with fail
    refine (M1.out _).mono ?_
    rintro e w2 ⟨rfl, rfl⟩
    go_wp2_with fail
    refine (M2.out _).mono ?_
    rintro e w2 ⟨rfl, hb2⟩
    have HH : Hid (AllHolds w (w2.alloc (.cells #[.int .i64 a.fr, .int .i64 a.cn, .int .i64 a.sm, .int .i64 a.mn, .int .i64 a.mx, .int .i64 a.fi, .int .i64 a.la] 43)) w2.heap.size a) := Lib.hid (by
      obtain ⟨z1, z2, z3, z4⟩ := HZ.out
      have hb3 := (Below.refl w2.heap.size w2).alloc (Nat.le_refl _) (.cells #[.int .i64 a.fr, .int .i64 a.cn, .int .i64 a.sm, .int .i64 a.mn, .int .i64 a.mx, .int .i64 a.fi, .int .i64 a.la] 43)
      refine ⟨?_, ?_, by simp, Nat.lt_of_lt_of_le z4 hb2.size, (z1.below hb2).below hb3, (z2.below z4 hb2).below (Nat.lt_of_lt_of_le z4 hb2.size) hb3, (z3.trans (hb2.mono z3.size)).trans (hb3.mono (Nat.le_trans z3.size hb2.size))⟩
      · unfold Holds
        simp
      · unfold Free
        simp)
    clear hb2 HZ c0 c1
    go_wp2
    go_step3
    go_wp2
    refine wp_loop_rounds 1 ?_
    rw [rounds_succ]
    obtain ⟨d0, d1, d2, d3, d4, d5, d6⟩ := HH.out.1
    obtain ⟨z0, z1, z2, z3, z4, z5, z6⟩ := HH.out.2.2.2.2.1
    obtain ⟨f0, f1, f2, f3, f4, f5, f6⟩ := HH.out.2.2.2.2.2.1
    have hlt2 := HH.out.2.2.2.1
    generalize w2.alloc (.cells #[.int .i64 a.fr, .int .i64 a.cn, .int .i64 a.sm, .int .i64 a.mn, .int .i64 a.mx, .int .i64 a.fi, .int .i64 a.la] 43) = wz at *
    generalize w2.heap.size = g6 at *
    go_wp2
    (try rw [Exit.noGoto_ret])
    (try simp only [Exit.inBlock, Exit.then])
    refine bodyPost_ret (v := .tuple #[.agg #[.int .i64 a.fr, .int .i64 a.cn, .int .i64 a.sm, .int .i64 a.mn, .int .i64 a.mx, .int .i64 a.fi, .int .i64 a.la], .int .i64 0]) ?_ rfl ⟨rfl, ?_⟩
    · rw [results_cell_tmp rfl]
      go_simp
    · exact below_set HH.out.2.2.2.2.2.2 (Nat.le_refl _) _ _ _ _ _ _ _
  · have h1c : 1 < cap := by omega
    go_enter Tryd.func26, Tryd.ntmps26
    go_wp2
    go_step3
    go_wp2_with fail
    refine (M1.out _).mono ?_
    rintro e w2 ⟨rfl, rfl⟩
    go_wp2_with fail
    refine (M2.out _).mono ?_
    rintro e w2 ⟨rfl, hb2⟩
    have HH : Hid (AllHolds w (w2.alloc (.cells #[.int .i64 a.fr, .int .i64 a.cn, .int .i64 a.sm, .int .i64 a.mn, .int .i64 a.mx, .int .i64 a.fi, .int .i64 a.la] 43)) w2.heap.size a) := Lib.hid (by
      obtain ⟨z1, z2, z3, z4⟩ := HZ.out
      have hb3 := (Below.refl w2.heap.size w2).alloc (Nat.le_refl _) (.cells #[.int .i64 a.fr, .int .i64 a.cn, .int .i64 a.sm, .int .i64 a.mn, .int .i64 a.mx, .int .i64 a.fi, .int .i64 a.la] 43)
      refine ⟨?_, ?_, by simp, Nat.lt_of_lt_of_le z4 hb2.size, (z1.below hb2).below hb3, (z2.below z4 hb2).below (Nat.lt_of_lt_of_le z4 hb2.size) hb3, (z3.trans (hb2.mono z3.size)).trans (hb3.mono (Nat.le_trans z3.size hb2.size))⟩
      · unfold Holds
        simp
      · unfold Free
        simp)
    clear hb2 HZ c0 c1
    go_wp2
    go_step3
    go_wp2
    refine wp_loop_rounds 1 ?_
    rw [rounds_succ]
    obtain ⟨d0, d1, d2, d3, d4, d5, d6⟩ := HH.out.1
    obtain ⟨z0, z1, z2, z3, z4, z5, z6⟩ := HH.out.2.2.2.2.1
    obtain ⟨f0, f1, f2, f3, f4, f5, f6⟩ := HH.out.2.2.2.2.2.1
    have hlt2 := HH.out.2.2.2.1
    generalize w2.alloc (.cells #[.int .i64 a.fr, .int .i64 a.cn, .int .i64 a.sm, .int .i64 a.mn, .int .i64 a.mx, .int .i64 a.fi, .int .i64 a.la] 43) = wz at *
    generalize w2.heap.size = g6 at *
    go_wp2
    (try rw [Exit.noGoto_ret])
    (try simp only [Exit.inBlock, Exit.then])
    refine bodyPost_ret (v := .tuple #[.agg #[.int .i64 a.fr, .int .i64 a.cn, .int .i64 a.sm, .int .i64 a.mn, .int .i64 a.mx, .int .i64 a.fi, .int .i64 a.la], .int .i64 0]) ?_ rfl ⟨rfl, ?_⟩
    · rw [results_cell_tmp rfl]
      go_simp
    · exact below_set HH.out.2.2.2.2.2.2 (Nat.le_refl _) _ _ _ _ _ _ _

set_option maxRecDepth 100000 in
theorem all_none (f : Int) (w : World) :
    Calls Tryd.prog 26 #[.slice none 0 0, .int .i64 f] w fun e w' => e = .returned (.tuple #[Ag.zero.val, .int .i64 1]) ∧ Below w.heap.size w w' := by
  unfold Ag.val Ag.zero
  go_enter Tryd.func26, Tryd.ntmps26
  go_wp2
  go_step3
  go_wp2
  (try rw [Exit.noGoto_ret])
  (try simp only [Exit.inBlock, Exit.then])
  refine bodyPost_ret (v := .tuple #[.agg #[.int .i64 0, .int .i64 0, .int .i64 0, .int .i64 0, .int .i64 0, .int .i64 0, .int .i64 0], .int .i64 1]) ?_ rfl ⟨rfl, ?_⟩
  · rw [results_cell_tmp rfl]
    go_simp
  · exact (Below.refl _ _).alloc (Nat.le_refl _) _

/-- All at every row of samples that is not empty. -/
theorem all_any {A : Option Addr} {len cap : Nat} {l : List (Int × Int)} (f : Int) {w : World} (hl : l.length = len) (hlen : 1 ≤ len) (hS : Samps w A l) (hc : len ≤ cap) (hm : cap ≤ maxLen) (hf : Ag.begin_ f) :
    Calls Tryd.prog 26 #[.slice A len cap, .int .i64 f] w fun e w' => e = .returned (.tuple #[(all f (l.map (·.2))).1.val, .int .i64 (all f (l.map (·.2))).2]) ∧ Below w.heap.size w w' := by
  obtain ⟨b, off, rfl, hcell⟩ := hS.2 (by omega)
  by_cases h1 : len = 1
  · subst h1
    obtain ⟨c0, c1⟩ := hcell 0 (by omega)
    have hv := (hS.1 _ (sample_mem (l := l) (j := 0) (by omega))).2
    have e : all f (l.map (·.2)) = (Ag.one (l.getD 0 (0, 0)).2 f, 0) := by
      rw [all_at (by omega) hf, List.drop_eq_nil_of_le (by rw [List.length_map, hl]; decide)]
      rfl
    rw [e]
    simp only [Nat.zero_mul, Nat.add_zero] at c0 c1
    exact all_one b off cap _ _ f w hv hc hm hf c0 c1
  · obtain ⟨n, rfl⟩ : ∃ n, len = n + 1 := ⟨len - 1, by omega⟩
    exact all_in b off n cap l f w hl (by omega) hS.1 hc hm hf (by rw [← hl]; exact hcell)

theorem Samps.below {w w' : World} {A : Option Addr} {l : List (Int × Int)} (h : Samps w A l) (hb : Below w.heap.size w w') : Samps w' A l := by
  refine ⟨h.1, fun hp => ?_⟩
  obtain ⟨b, off, rfl, hc⟩ := h.2 hp
  refine ⟨b, off, rfl, fun j hj => ?_⟩
  obtain ⟨h0, h1⟩ := hc j hj
  rw [hb.cell (World.block_lt_of_cell? w _ h0), hb.cell (World.block_lt_of_cell? w _ h1)]
  exact ⟨h0, h1⟩
theorem Samps.take {w : World} {A : Option Addr} {l : List (Int × Int)} (h : Samps w A l) (k : Nat) : Samps w A (l.take k) := by
  refine ⟨fun s hs => h.1 s (List.mem_of_mem_take hs), fun hp => ?_⟩
  rw [List.length_take] at hp
  obtain ⟨b, off, e, hc⟩ := h.2 (by omega)
  refine ⟨b, off, e, fun j hj => ?_⟩
  rw [List.length_take] at hj
  have e : (l.take k).getD j (0, 0) = l.getD j (0, 0) := by
    rw [List.getD_eq_getElem?_getD, List.getD_eq_getElem?_getD, List.getElem?_take, if_pos (by omega)]
  rw [e]
  exact hc j (by omega)
theorem Samps.drop {w : World} {b off : Nat} {l : List (Int × Int)} (h : Samps w (some ⟨b, off, none⟩) l) (k : Nat) : Samps w (some ⟨b, off + k * 2, none⟩) (l.drop k) := by
  refine ⟨fun s hs => h.1 s (List.mem_of_mem_drop hs), fun hp => ?_⟩
  rw [List.length_drop] at hp
  obtain ⟨b', off', e, hc⟩ := h.2 (by omega)
  injection e with e
  injection e with e1 e2
  subst e1 e2
  refine ⟨b, off + k * 2, rfl, fun j hj => ?_⟩
  rw [List.length_drop] at hj
  have e : (l.drop k).getD j (0, 0) = l.getD (k + j) (0, 0) := by
    rw [List.getD_eq_getElem?_getD, List.getD_eq_getElem?_getD, List.getElem?_drop]
  rw [e, show off + k * 2 + j * 2 = off + (k + j) * 2 by omega]
  exact hc (k + j) (by omega)
end Go.Proofs.YtoccmklbjabaaaaDoor
