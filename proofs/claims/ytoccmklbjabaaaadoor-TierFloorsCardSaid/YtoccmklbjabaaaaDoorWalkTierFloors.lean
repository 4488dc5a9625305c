/-
  The walk of TierFloors: it returns true, and writes nothing that was there.
-/
import Derived.Test.YtoccmklbjabaaaaDoorTTold
namespace Go.Proofs.YtoccmklbjabaaaaDoor.tierFloors
open Go.RowKit
set_option linter.unusedVariables false

theorem fits {a : Int} (h : (Lit.int .i64 a).wf = true) : In64 a := fits_i64 h
theorem emod_flr {x V : Int} (hV : 0 < V) : (x - x % V) % V = 0 := by
  rw [Int.sub_emod, Int.emod_emod_of_dvd x (Int.dvd_refl V), Int.sub_self]
  exact Int.zero_emod V

/-- What is asked of a window that holds x. -/
theorem flr_says {x n : Int} (hx : 0 ≤ x) (hx1 : x < 1000000) (hn : 0 ≤ n) (hn3 : n < 4) :
    flr x n ≤ x ∧ x < flr x n + wid n ∧ 0 ≤ flr x n ∧ flr x n % wid n = 0 ∧ flr (flr x n) n = flr x n ∧ flr (flr x n + wid n) n = flr x n + wid n := by
  have hw := wid_some hn hn3
  have hb : Ag.begin_ x := ⟨hx, by omega⟩
  have e := flr_some (k := n) (by omega) hb
  have h1 := Int.emod_nonneg x (show wid n ≠ 0 by omega)
  have h2 := Int.emod_lt_of_pos x (show 0 < wid n by omega)
  have h3 := emod_le (m := wid n) hx (by omega)
  have h4 := emod_flr (x := x) (V := wid n) (by omega)
  rw [← e] at h4
  have hf : 0 ≤ flr x n ∧ flr x n ≤ x ∧ x < flr x n + wid n := by rw [e]; omega
  refine ⟨hf.2.1, hf.2.2, hf.1, h4, ?_, ?_⟩
  · rw [flr_some (k := n) (by omega) ⟨hf.1, by omega⟩, h4, Int.sub_zero]
  · rw [flr_some (k := n) (by omega) ⟨by omega, by omega⟩, Int.add_emod, h4, Int.emod_self]
    simp
theorem flr_next {x n : Int} (hx : 0 ≤ x) (hx1 : x < 1000000) (hn : 0 ≤ n) (hn3 : n < 3) : flr (flr x n) (n + 1) = flr x (n + 1) ∧ wid (n + 1) % wid n = 0 := by
  have hw := wid_some hn (by omega)
  have hb : Ag.begin_ x := ⟨hx, by omega⟩
  have e := flr_some (k := n) (by omega) hb
  have hs := flr_says hx hx1 hn (by omega)
  have hb' : Ag.begin_ (flr x n) := ⟨hs.2.2.1, by omega⟩
  have hw1 := wid_some (k := n + 1) (by omega) (by omega)
  have e1 := flr_some (k := n + 1) (by omega) hb
  have e2 := flr_some (k := n + 1) (by omega) hb'
  rw [e1, e2, e]
  rcases (show n = 0 ∨ n = 1 ∨ n = 2 by omega) with rfl | rfl | rfl
  · rw [show wid 0 = 1 by decide, show wid (0 + 1) = 5 by decide]
    omega
  · rw [show wid 1 = 5 by decide, show wid (1 + 1) = 60 by decide]
    omega
  · rw [show wid 2 = 60 by decide, show wid (2 + 1) = 1440 by decide]
    omega

theorem wrap_u64_rem {a : Int} (m : Int) (hm : 0 < m) (hm2 : m < 1000001) : ∃ x : Int, (IntKind.u64.wrap a).tmod m = x ∧ 0 ≤ x ∧ x < m := by
  have h0 : 0 ≤ IntKind.u64.wrap a := by rw [IntKind.wrap_u64]; omega
  refine ⟨_, rfl, Int.tmod_nonneg m h0, Int.tmod_lt_of_pos _ hm⟩

set_option maxRecDepth 100000 in
set_option maxHeartbeats 1000000 in
theorem walk (a0 a1 : Int) (w : World) (w0 : (Lit.int .i64 a0).wf = true) (w1 : (Lit.int .i64 a1).wf = true) (hw : Wid w) :
    Calls Tryd.prog 8 #[.int .i64 a0, .int .i64 a1] w fun e w' => e = .returned (.bool true) ∧ Below w.heap.size w w' := by
  obtain ⟨x, hx, hx0, hx1⟩ := wrap_u64_rem (a := a0) 1000000 (by decide) (by decide)
  obtain ⟨n, hn, hn0, hn1⟩ := wrap_u64_rem (a := a1) 4 (by decide) (by decide)
  obtain ⟨U, hU⟩ : ∃ U, IntKind.u64.wrap a0 = U := ⟨_, rfl⟩
  obtain ⟨V, hV⟩ : ∃ V, IntKind.u64.wrap a1 = V := ⟨_, rfl⟩
  rw [hU] at hx
  rw [hV] at hn
  have hxw : IntKind.i64.wrap x = x := by rw [IntKind.wrap_i64]; omega
  have hnw : IntKind.i64.wrap n = n := by rw [IntKind.wrap_i64]; omega
  have hsay := flr_says hx0 hx1 hn0 hn1
  have hnext := flr_next hx0 hx1 hn0
  have hw4 := wid_some hn0 hn1
  have x64 : In64 x := by unfold In64; omega
  have n64 : In64 n := by unfold In64; omega
  have F1 := Lib.hid (fun w' h => floor_any x n w' x64 n64 h)
  have W1 := Lib.hid (fun w' h => width_any n w' n64 h)
  have F2 := Lib.hid (fun w' h => floor_any (flr x n) n w' (by unfold In64; omega) n64 h)
  have F3 := Lib.hid (fun w' h => floor_any (flr x n + wid n) n w' (by unfold In64; omega) n64 h)
  have F4 : Hid (∀ w', Wid w' → Calls Tryd.prog 20 #[.int .i64 x, .int .i64 4] w' fun e w'' => e = .returned (.int .i64 (-1)) ∧ w' = w'') := Lib.hid (fun w' h => by
    have := floor_any x 4 w' x64 (by decide) h
    rwa [show flr x 4 = -1 from flr_none (.inl (by decide))] at this)
  have F5 : Hid (∀ w', Wid w' → Calls Tryd.prog 20 #[.int .i64 1099511627777, .int .i64 n] w' fun e w'' => e = .returned (.int .i64 (-1)) ∧ w' = w'') := Lib.hid (fun w' h => by
    have := floor_any 1099511627777 n w' (by decide) n64 h
    rwa [show flr 1099511627777 n = -1 from flr_none (.inr (by decide))] at this)
  have HNX : Hid (n < 3 → ∀ w', Wid w' → (Calls Tryd.prog 20 #[.int .i64 (flr x n), .int .i64 (n + 1)] w' fun e w'' => e = .returned (.int .i64 (flr x (n + 1))) ∧ w' = w'') ∧
      (Calls Tryd.prog 20 #[.int .i64 x, .int .i64 (n + 1)] w' fun e w'' => e = .returned (.int .i64 (flr x (n + 1))) ∧ w' = w'') ∧ (Calls Tryd.prog 18 #[.int .i64 (n + 1)] w' fun e w'' => e = .returned (.int .i64 (wid (n + 1))) ∧ w' = w'')) := Lib.hid (fun h3 w' h => by
    refine ⟨?_, floor_any x (n + 1) w' x64 (by unfold In64; omega) h, width_any (n + 1) w' (by unfold In64; omega) h⟩
    rw [← (hnext h3).1]
    exact floor_any (flr x n) (n + 1) w' (by unfold In64; omega) (by unfold In64; omega) h)
  obtain ⟨s1, s2, s3, s4, s5, s6⟩ := hsay
  rw [s5] at F2
  rw [s6] at F3
  have hn1w : n < 3 → (wid (n + 1)).tmod (wid n) = 0 := fun h3 => by
    rw [Int.tmod_eq_emod_of_nonneg (wid_bounds _).1]
    exact (hnext h3).2
  have hft : (flr x n).tmod (wid n) = 0 := by rw [Int.tmod_eq_emod_of_nonneg s3]; exact s4
  generalize flr x n = f at *
  generalize wid n = W at *
  obtain ⟨S, hS⟩ : ∃ S, f + W = S := ⟨_, rfl⟩
  have hSw : IntKind.i64.wrap (f + W) = S := by rw [IntKind.wrap_i64]; omega
  rw [hS] at F3 s2
  have HW : Hid (∀ w', Below w.heap.size w w' → Wid w') := Lib.hid (fun w' hb => hw.below hb)
  have hW0 : W ≠ 0 := by omega
  have hWm : W ≠ -1 := by omega
  have HN1W := Lib.hid hn1w
  have HW0 := Lib.hid hw
  clear hnext s3 s4 s5 s6 hn1w hw hS x64 n64
  have t1 : decide (x < f) = false := decide_eq_false (by omega)
  have t2 : decide (S ≤ x) = false := decide_eq_false (by omega)
  go_enter Tryd.func8, Tryd.ntmps8
  go_wp2_with fail
  refine (F1.out _ HW0.out).mono ?_
  rintro e w2 ⟨rfl, rfl⟩
  go_wp2_with fail
  refine (W1.out _ HW0.out).mono ?_
  rintro e w2 ⟨rfl, rfl⟩
  go_wp2_with fail
  refine (F2.out _ HW0.out).mono ?_
  rintro e w2 ⟨rfl, rfl⟩
  go_wp2_with fail
  refine (F3.out _ HW0.out).mono ?_
  rintro e w2 ⟨rfl, rfl⟩
  go_wp2_with fail
  refine (told_any _ HW0.out).mono ?_
  rintro e w3 ⟨rfl, hb3⟩
  have HW3 : Hid (Wid w3) := Lib.hid (HW.out _ hb3)
  have HB3 := Lib.hid hb3
  clear hb3 HW HW0 t1 t2 F1 W1 F2 F3
  by_cases hn3 : n = 3
  · have hb : (n == 3) = true := by simpa using hn3
    clear hn3
    go_wp2_with fail
    refine (F4.out _ HW3.out).mono ?_
    rintro e w4 ⟨rfl, rfl⟩
    go_wp2_with fail
    refine (F5.out _ HW3.out).mono ?_
    rintro e w4 ⟨rfl, rfl⟩
    go_wp2
    go_ret
    exact ⟨rfl, HB3.out⟩
  · have hb : (n == 3) = false := by simpa using hn3
    have hlt : n < 3 := by omega
    have h1 := HNX.out hlt
    have hrem := HN1W.out hlt
    generalize flr x (n + 1) = G at h1
    generalize wid (n + 1) = W1 at h1 hrem
    have hnw1 : IntKind.i64.wrap (n + 1) = n + 1 := by rw [IntKind.wrap_i64]; omega
    obtain ⟨n1, hn1'⟩ : ∃ n1, n + 1 = n1 := ⟨_, rfl⟩
    rw [hn1'] at h1
    replace hnw1 : IntKind.i64.wrap (n + 1) = n1 := hnw1.trans hn1'
    have H1 := Lib.hid h1
    clear h1 hn3 hlt HNX HN1W hn1'
    go_wp2_with fail
    refine (H1.out _ HW3.out).1.mono ?_
    rintro e w4 ⟨rfl, rfl⟩
    go_wp2_with fail
    refine (H1.out _ HW3.out).2.1.mono ?_
    rintro e w4 ⟨rfl, rfl⟩
    go_wp2_with fail
    refine (H1.out _ HW3.out).2.2.mono ?_
    rintro e w4 ⟨rfl, rfl⟩
    go_wp2_with fail
    refine (F4.out _ HW3.out).mono ?_
    rintro e w4 ⟨rfl, rfl⟩
    go_wp2_with fail
    refine (F5.out _ HW3.out).mono ?_
    rintro e w4 ⟨rfl, rfl⟩
    go_wp2
    go_ret
    exact ⟨rfl, HB3.out⟩
end Go.Proofs.YtoccmklbjabaaaaDoor.tierFloors
