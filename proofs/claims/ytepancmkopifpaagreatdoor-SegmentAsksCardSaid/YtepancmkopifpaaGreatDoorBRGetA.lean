/-
  The document's own reader of windows: what it returns, where it stands behind it.
  The document's own answer for windows' bytes: what it returns of every string; nothing that was there is written.
-/
import Derived.Test.YtepancmkopifpaaGreatDoorBAInv
import Derived.Deep.RegionHeld3
namespace Go.Proofs.YtepancmkopifpaaGreatDoor
open Go.RowKit
attribute [local go_sem ↓] Go.wp_at_zero Go.wp_at_succ
set_option linter.unusedVariables false

theorem and62 (c : Nat) (h : c < 18446744073709551616) : bits .and .u64 (c : Int) 4611686018427387903 = ((c % 4611686018427387904 : Nat) : Int) := by
  have := bits_mask .u64 64 (by decide) wraps_u64 62 (by decide) (c : Int) (by omega) (by omega)
  rw [show ((4611686018427387903 : Int)) = 2 ^ 62 - 1 from rfl, this]
  omega

theorem AMid.drewN {w wr : World} {g : Nat} {s : ByteArray} {p : Nat} {bad : Bool} {V : Value} {out : List Ag} {A : Nat} {x : Ag} (h : AMid w wr g s p bad V out A x) (n : Nat) : AMid w (wr.drewN n) g s p bad V out A x :=
  h.num (h.pos.below (belowN wr n)) ⟨rfl, rfl, rfl, Nat.le_refl _, fun _ _ _ => rfl⟩
theorem amid_new {w wr : World} {g : Nat} {s : ByteArray} {p : Nat} {bad : Bool} {V : Value} {out : List Ag} (hc : CAt wr g s p bad) (ho : wr.ownsRow w.heap.size 50 7 V out.length (aggV out)) (hg : w.grownBy wr (some g)) (hl : g < w.heap.size) (x : Ag) :
    AMid w (wr.alloc (.cells #[.int .i64 x.fr, .int .i64 x.cn, .int .i64 x.sm, .int .i64 x.mn, .int .i64 x.mx, .int .i64 x.fi, .int .i64 x.la] 50)) g s p bad V out wr.heap.size x := by
  refine ⟨hc.grown (World.grownBy_alloc wr _ none) (by simp), own7_below ho (past_alloc (Below.refl _ _) _), grown_then hg (World.grownBy_alloc wr _ none) (fun j e => by simp at e), hl, hg.size, by simp, fun k e => ?_, ?_, ?_⟩
  · have := (ho.lt k e).2
    omega
  · unfold Holds
    simp
  · unfold Free
    simp

set_option maxRecDepth 100000 in
set_option maxHeartbeats 4000000 in
theorem aggs_go (bs : List Nat) (g : Nat) (s : ByteArray) (p : Nat) (bad : Bool) (k : Int) (w : World) (h : CAt w g s p bad) (hs : StrIs s bs) (hp : p ≤ bs.length) (hk : coarse k) (h64 : (numR bs p bad).1 ≤ 64) :
    Calls Tryz.prog 33 #[.pointer (some ⟨g, 0, none⟩), .int .i64 k] w (AggPost bs g s (ablkAt bs (wid k) p bad) w) := by
  have MN := Lib.hid (fun w p bad h hp => num_any bs g s p bad w h hs hp)
  have HNL := Lib.hid (fun p bad hp => numR_le (bs := bs) (p := p) (bad := bad) hs.2.1 hp)
  have mw := fun w => rwidth_any k w (by unfold coarse at hk; unfold In64; omega)
  have HW3 := Lib.hid (wid_three hk)
  have HBY := Lib.hid hs.2.1
  have HGL := Lib.hid h.lt
  have H := Lib.hid h
  have HP := Lib.hid hp
  have HR : Hid (ablkAt bs (wid k) p bad = rOn bs (wid k) (numR bs p bad).1 none (numR bs p bad).2.1 (numR bs p bad).2.2) := Lib.hid (by unfold ablkAt; rw [decide_eq_false (by omega), Bool.or_false])
  have HL0 := HNL.out p bad hp
  generalize ablkAt bs (wid k) p bad = R at *
  generalize wid k = W at *
  have MW := Lib.hid mw
  have hWw : IntKind.u64.wrap W = W := by rw [IntKind.wrap_u64]; have := HW3.out; omega
  clear hs h hp mw hk
  go_enter Tryz.func33, Tryz.ntmps33
  go_wp2_with fail
  refine (MN.out _ _ _ H.out HP.out).mono ?_
  rintro e w1 ⟨rfl, hc1, hg1⟩
  generalize numR bs p bad = y at *
  obtain ⟨n, p1, bad1⟩ := y
  simp only at *
  have HC1 := Lib.hid hc1
  have HG1 := Lib.hid hg1
  have hc64 : ¬ (64 : Int) < (n : Int) := by omega
  clear hc1 hg1
  go_wp2_with fail
  refine (MW.out _).mono ?_
  rintro e w2 ⟨rfl, rfl⟩
  go_wp2
  go_loopw [6, 8] (fun s6 s8 wr => ∃ (out : List Ag) (i p : Nat) (bad : Bool), i ≤ n ∧ s8 = .int .i64 (i : Int) ∧ Hid (AKInv w wr g s bs W R n i out s6 p bad)) (fun _ s8 _ => n - (intOf s8).toNat)
  case atStart => exact ⟨[], 0, p1, bad1, by omega, rfl, Lib.hid ⟨HC1.out, World.ownsRow_nil _ _ _ _, fun _ h => by simp at h, rfl, HL0.1, HG1.out, by rw [HR.out]; rfl⟩⟩
  case round =>
    obtain ⟨out, i, p, bad, hi, rfl, HI⟩ := hrel
    have hcb := HI.out.pos.c2
    by_cases hgo : i < n ∧ bad = false
    · obtain ⟨hlt, rfl⟩ := hgo
      have i1 : (i : Int) < (n : Int) := by omega
      have HC := Lib.hid HI.out.pos
      have HLE := Lib.hid HI.out.le
      have HOWN := Lib.hid HI.out.own
      have HGR := Lib.hid HI.out.grown
      have hol := HI.out.len
      obtain ⟨F, q1, b1, e1⟩ : ∃ T q b, numR bs p false = (T, q, b) := ⟨_, _, _, rfl⟩
      have n1 := HNL.out p false HLE.out
      rw [e1] at n1
      simp only at n1
      have m1 := fun w h => MN.out w p false h HLE.out
      unfold NumPost at m1
      rw [e1] at m1
      have M1 := Lib.hid m1
      obtain ⟨B1, hB1⟩ : ∃ B, (b1 || decide (1099511627776 < F)) = B := ⟨_, rfl⟩
      obtain ⟨C, q2, b2, e2⟩ : ∃ T q b, numR bs q1 B1 = (T, q, b) := ⟨_, _, _, rfl⟩
      have n2 := HNL.out q1 B1 n1.1
      rw [e2] at n2
      simp only at n2
      have m2 := fun w h => MN.out w q1 B1 h n1.1
      unfold NumPost at m2
      rw [e2] at m2
      have M2 := Lib.hid m2
      obtain ⟨M, q3, b3, e3⟩ : ∃ T q b, numR bs q2 b2 = (T, q, b) := ⟨_, _, _, rfl⟩
      have n3 := HNL.out q2 b2 n2.1
      rw [e3] at n3
      simp only at n3
      have m3 := fun w h => MN.out w q2 b2 h n2.1
      unfold NumPost at m3
      rw [e3] at m3
      have M3 := Lib.hid m3
      have mz := fun w => refzag_any (M : Int) w (by omega) (by omega)
      obtain ⟨mn, hmn⟩ : ∃ mn, zag (M : Int) = mn := ⟨_, rfl⟩
      rw [hmn] at mz
      have MZ := Lib.hid mz
      obtain ⟨G, hG⟩ : ∃ G, fOf W (preAt out i) F = G := ⟨_, rfl⟩
      obtain ⟨fr, hfr⟩ : ∃ fr, w64 (G * W) = fr := ⟨_, rfl⟩
      obtain ⟨GW, hGW⟩ : ∃ GW, IntKind.u64.wrap (G * W) = GW := ⟨_, rfl⟩
      have hGW2 : IntKind.i64.wrap GW = fr := by
        rw [← hGW, ← hfr, IntKind.wrap_i64, IntKind.wrap_u64]
        generalize G * W = t
        unfold w64
        omega
      obtain ⟨C2, hC2⟩ : ∃ C2, C % 4611686018427387904 = C2 := ⟨_, rfl⟩
      have hC2s : C2 < 4611686018427387904 := by omega
      have hand := and62 C n2.2
      rw [hC2] at hand
      have hcw : IntKind.i64.wrap (C2 : Int) = (C2 : Int) := by rw [IntKind.wrap_i64]; omega
      have hcw1 : IntKind.i64.wrap ((C2 : Int) + 1) = (C2 : Int) + 1 := by rw [IntKind.wrap_i64]; omega
      have HE : Hid (numR bs p false = (F, q1, b1) ∧ (b1 || decide (1099511627776 < F)) = B1 ∧ numR bs q1 B1 = (C, q2, b2) ∧ numR bs q2 b2 = (M, q3, b3) ∧ zag (M : Int) = mn ∧ fOf W (preAt out i) F = G ∧ w64 (G * W) = fr ∧ C % 4611686018427387904 = C2) := Lib.hid ⟨e1, hB1, e2, e3, hmn, hG, hfr, hC2⟩
      have HN3 := Lib.hid n3
      clear m1 m2 m3 mz e1 e2 e3 hmn hfr hC2
      go_wp2_with fail
      refine (M1.out _ HC.out).mono ?_
      rintro e w2 ⟨rfl, hc2, hg2⟩
      have HC2 := Lib.hid hc2
      have HOWN2 := Lib.hid (own7_num HOWN.out hg2 HGL.out)
      have HGR2 := Lib.hid (HGR.out.trans hg2)
      have cb2 := hc2.c2
      have cf2 := hc2.f2
      clear hc2 hg2 hcb
      by_cases hF : 1099511627776 < F
      case' pos =>
        have hFi : (1099511627776 : Int) < (F : Int) := by omega
        have hBt : B1 = true := by rw [← hB1]; simp [hF]
        have HC3 : Hid (CAt (w2.setCell ⟨g, 2, none⟩ (.bool true)) g s q1 B1) := Lib.hid (by rw [hBt]; exact c_bad HC2.out)
        have HOWN3 := Lib.hid (own7_num HOWN2.out (g_bad w2 g (.bool true)) HGL.out)
        have HGR3 := Lib.hid (HGR2.out.trans (g_bad w2 g (.bool true)))
        clear hB1 hBt
        go_upto_region 12 with fail
        generalize w2.setCell ⟨g, 2, none⟩ (.bool true) = w3 at *
        clear cb2 cf2
      case' neg =>
        have hFi : ¬ (1099511627776 : Int) < (F : Int) := by omega
        have hBt : B1 = b1 := by rw [← hB1]; simp [hF]
        have HC3 : Hid (CAt w2 g s q1 B1) := Lib.hid (by rw [hBt]; exact HC2.out)
        have HOWN3 := HOWN2
        have HGR3 := HGR2
        clear hB1 hBt
        go_upto_region 12 with fail
        clear cb2 cf2
        generalize w2 = w3 at *
      all_goals
        by_cases hpos : 0 < i
        case' pos =>
          obtain ⟨k, hk⟩ : ∃ k, i = k + 1 := ⟨i - 1, by omega⟩
          have hG1 : G = ((F : Int) + 1 + ((agAt out k).fr % 18446744073709551616) / W) % 18446744073709551616 := by
            rw [← hG, hk]
            rfl
          obtain ⟨gb, cap, hu6⟩ : ∃ gb cap, u6 = .slice (some ⟨gb, 0, none⟩) i cap := by
            rcases HOWN3.out.2 with ⟨_, h0⟩ | ⟨g', cap, cur, e, _⟩
            · omega
            · exact ⟨g', cap, by rw [e, hol]⟩
          subst hu6
          have c0 : w3.cell? ⟨gb, k * 7, none⟩ = some (.int .i64 (agAt out k).fr) := by
            obtain ⟨A', cap', e, hr⟩ := rowOf_own HOWN3.out HI.out.ok
            injection e with e _ _
            subst e
            obtain ⟨b', o', e2, hcc⟩ := hr.2.1.2 (by omega)
            injection e2 with e2
            injection e2 with e3 e4
            subst e3 e4
            have := (hcc k (by omega)).1
            rwa [Nat.zero_add] at this
          obtain ⟨f0, hf0⟩ : ∃ f0, (agAt out k).fr = f0 := ⟨_, rfl⟩
          rw [hf0] at c0 hG1
          obtain ⟨P0, hP0⟩ : ∃ P0, IntKind.u64.wrap f0 = P0 := ⟨_, rfl⟩
          have hP0b : P0 = f0 % 18446744073709551616 := by rw [← hP0, IntKind.wrap_u64]
          obtain ⟨Q0, hQ0⟩ : ∃ Q0, P0 / W = Q0 := ⟨_, rfl⟩
          have hq0 : IntKind.u64.wrap (P0.tdiv W) = Q0 := by
            rw [Int.tdiv_eq_ediv_of_nonneg (by omega), IntKind.wrap_u64, ← hQ0]
            have h3 := HW3.out
            rcases h3 with e | e | e <;> rw [e] <;> omega
          obtain ⟨F1, hF1⟩ : ∃ F1, IntKind.u64.wrap ((F : Int) + 1) = F1 := ⟨_, rfl⟩
          have hF2 : IntKind.u64.wrap (F1 + Q0) = G := by
            rw [hG1, ← hF1, ← hP0b, hQ0]
            simp only [IntKind.wrap_u64]
            omega
          have hW0 : ¬ W = 0 := by have := HW3.out; omega
          have j1 : IntKind.i64.wrap ((i : Int) - 1) = (k : Int) := by rw [IntKind.wrap_i64]; omega
          have j2 : (0 : Int) ≤ (k : Int) := by omega
          have j3 : (k : Int) < (i : Int) := by omega
          have j4 : (0 : Int) < (i : Int) := by omega
          clear hk hG1 hf0 hP0b hQ0 hG
          go_upto_region 14 with fail
          clear c0 hP0 hq0 hF1 hF2 j1 j2 j3
          generalize (Value.slice (some ⟨gb, 0, none⟩) i cap) = u6 at *
        case' neg =>
          have j4 : ¬ (0 : Int) < (i : Int) := by omega
          have hG1 : G = (F : Int) := by
            rw [← hG, show i = 0 by omega]
            rfl
          subst hG1
          clear hG
          go_upto_region 14 with fail
      all_goals
        clear j4 hpos hFi hF M1 HC HC2 HOWN HOWN2 HGR HGR2
        go_wp2_with fail
        refine (M2.out _ HC3.out).mono ?_
        rintro e w4 ⟨rfl, hc4, hg4⟩
        have HM : Hid (AMid w (w4.alloc (.cells #[.int .i64 fr, .int .i64 ((C2 : Int) + 1), .int .i64 0, .int .i64 0, .int .i64 0, .int .i64 0, .int .i64 0] 50)) g s q2 b2 u6 out w4.heap.size ⟨fr, (C2 : Int) + 1, 0, 0, 0, 0, 0⟩) := Lib.hid (amid_new hc4 (own7_num HOWN3.out hg4 HGL.out) (HGR3.out.trans hg4) HGL.out ⟨fr, (C2 : Int) + 1, 0, 0, 0, 0, 0⟩)
        clear hc4 hg4 HC3 HOWN3 HGR3 M2
        go_wp2_with fail
        refine (M3.out _ HM.out.pos).mono ?_
        rintro e w5 ⟨rfl, hc5, hg5⟩
        have HM5 := Lib.hid (HM.out.num hc5 hg5)
        clear HM hc5 hg5 M3 hGW hGW2 hand hcw hcw1
        generalize w4.heap.size = A at *
        go_wp2_with fail
        refine (MZ.out _).mono ?_
        rintro e w6 ⟨rfl, rfl⟩
        obtain ⟨h0, h1, h2, h3, h4, h5, h6⟩ := HM5.out.holds
        obtain ⟨f0, f1, f2, f3, f4, f5, f6⟩ := HM5.out.free
        have HM6 : Hid (AMid w (((((w5.setCell ⟨A, 3, none⟩ (.int .i64 mn)).setCell ⟨A, 2, none⟩ (.int .i64 mn)).setCell ⟨A, 4, none⟩ (.int .i64 mn)).setCell ⟨A, 5, none⟩ (.int .i64 mn)).setCell ⟨A, 6, none⟩ (.int .i64 mn)) g s q3 b3 u6 out A ⟨fr, (C2 : Int) + 1, mn, mn, mn, mn, mn⟩) := Lib.hid (((((HM5.out.set3 mn).set2 mn).set4 mn).set5 mn).set6 mn)
        clear HM5 MZ
        go_upto_region 17 with fail
        generalize ((((w5.setCell ⟨A, 3, none⟩ (.int .i64 mn)).setCell ⟨A, 2, none⟩ (.int .i64 mn)).setCell ⟨A, 4, none⟩ (.int .i64 mn)).setCell ⟨A, 5, none⟩ (.int .i64 mn)).setCell ⟨A, 6, none⟩ (.int .i64 mn) = w7 at *
        clear h0 h1 h2 h3 h4 h5 h6 f0 f1 f2 f3 f4 f5 f6
        obtain ⟨i0, hi0, hz0, hz1, hz2⟩ := info_parts Tryz.info50
        have hsz := HM6.out.grown.size
        by_cases hcn : 0 < C2
        · have hcni : (1 : Int) < (C2 : Int) + 1 := by omega
          have n3 := HN3.out
          obtain ⟨X, q4, b4, e4⟩ : ∃ T q b, numR bs q3 b3 = (T, q, b) := ⟨_, _, _, rfl⟩
          have n4 := HNL.out q3 b3 n3.1
          rw [e4] at n4
          simp only at n4
          have m4 := fun w h => MN.out w q3 b3 h n3.1
          unfold NumPost at m4
          rw [e4] at m4
          have M4 := Lib.hid m4
          obtain ⟨S, q5, b5, e5⟩ : ∃ T q b, numR bs q4 b4 = (T, q, b) := ⟨_, _, _, rfl⟩
          have n5 := HNL.out q4 b4 n4.1
          rw [e5] at n5
          simp only at n5
          have m5 := fun w h => MN.out w q4 b4 h n4.1
          unfold NumPost at m5
          rw [e5] at m5
          have M5 := Lib.hid m5
          obtain ⟨I, q6, b6, e6⟩ : ∃ T q b, numR bs q5 b5 = (T, q, b) := ⟨_, _, _, rfl⟩
          have n6 := HNL.out q5 b5 n5.1
          rw [e6] at n6
          simp only at n6
          have m6 := fun w h => MN.out w q5 b5 h n5.1
          unfold NumPost at m6
          rw [e6] at m6
          have M6 := Lib.hid m6
          obtain ⟨L, q7, b7, e7⟩ : ∃ T q b, numR bs q6 b6 = (T, q, b) := ⟨_, _, _, rfl⟩
          have m7 := fun w h => MN.out w q6 b6 h n6.1
          unfold NumPost at m7
          rw [e7] at m7
          have M7 := Lib.hid m7
          have ms := fun w => refzag_any (S : Int) w (by omega) (by omega)
          obtain ⟨sm, hsm⟩ : ∃ sm, zag (S : Int) = sm := ⟨_, rfl⟩
          rw [hsm] at ms
          have MS := Lib.hid ms
          obtain ⟨mx, hmx⟩ : ∃ mx, w64 (mn + (X : Int)) = mx := ⟨_, rfl⟩
          obtain ⟨fi, hfi⟩ : ∃ fi, w64 (mn + (I : Int)) = fi := ⟨_, rfl⟩
          obtain ⟨la, hla⟩ : ∃ la, w64 (mn + (L : Int)) = la := ⟨_, rfl⟩
          have HX : Hid (rAg bs W (preAt out i) p false = (⟨fr, (C2 : Int) + 1, sm, mn, mx, fi, la⟩, q7, b7)) := Lib.hid (by
            obtain ⟨e1, hB1, e2, e3, hmn, hG, hfr, hC2⟩ := HE.out
            unfold rAg
            simp only [e1, hB1, e2, e3, e4, e5, e6, e7, hmn, hG, hfr, hC2, hsm, hmx, hfi, hla]
            rw [if_pos hcni])
          obtain ⟨U, hU⟩ : ∃ U, IntKind.u64.wrap mn = U := ⟨_, rfl⟩
          obtain ⟨U4, hU4⟩ : ∃ V, IntKind.u64.wrap (U + (X : Int)) = V := ⟨_, rfl⟩
          obtain ⟨U5, hU5⟩ : ∃ V, IntKind.u64.wrap (U + (I : Int)) = V := ⟨_, rfl⟩
          obtain ⟨U6, hU6⟩ : ∃ V, IntKind.u64.wrap (U + (L : Int)) = V := ⟨_, rfl⟩
          have hx4 : IntKind.i64.wrap U4 = mx := by
            rw [← hmx, ← hU4, ← hU]
            simp only [IntKind.wrap_u64, IntKind.wrap_i64]
            unfold w64
            omega
          have hx5 : IntKind.i64.wrap U5 = fi := by
            rw [← hfi, ← hU5, ← hU]
            simp only [IntKind.wrap_u64, IntKind.wrap_i64]
            unfold w64
            omega
          have hx6 : IntKind.i64.wrap U6 = la := by
            rw [← hla, ← hU6, ← hU]
            simp only [IntKind.wrap_u64, IntKind.wrap_i64]
            unfold w64
            omega
          have h1 := HM6.out.holds.2.1
          clear m4 m5 m6 m7 ms e4 e5 e6 e7 hsm hmx hfi hla n3 n4 n5 n6
          go_upto_region 18 with fail
          clear h1
          have k3 := HM6.out.holds.2.2.2.1
          have HMN := Lib.hid (fun n => HM6.out.drewN n)
          go_region_held3 (fun w' => w'.cell? ⟨A, 3, none⟩ = some (.int .i64 mn))
            (first
              | exact z3
              | exact (hM.set4 mx).holds.2.2.2.1
              | exact HM6.out.holds.2.2.2.1
              | exact (HMN.out 1).holds.2.2.2.1)
            ((go_at_call 31; refine (M4.out _ (HMN.out 1).pos).mono ?_; rintro e wt ⟨rfl, hct, hgt⟩; have hM := (HMN.out 1).num hct hgt; obtain ⟨z0, z1, z2, z3, z4, z5, z6⟩ := hM.holds; obtain ⟨f0, f1, f2, f3, f4, f5, f6⟩ := hM.free))
          have HM8 := Lib.hid (hM.set4 mx)
          clear z0 z1 z2 z3 z4 z5 z6 f0 f1 f2 f3 f4 f5 f6 hM hct hgt HMN k3
          generalize wt.setCell ⟨A, 4, none⟩ (.int .i64 mx) = w8 at *
          go_wp2_with fail
          refine (M5.out _ HM8.out.pos).mono ?_
          rintro e wb ⟨rfl, hcb, hgb⟩
          have HMB := Lib.hid (HM8.out.num hcb hgb)
          clear hcb hgb
          go_wp2_with fail
          refine (MS.out _).mono ?_
          rintro e wc ⟨rfl, rfl⟩
          obtain ⟨h0, h1, h2, h3, h4, h5, h6⟩ := HMB.out.holds
          obtain ⟨f0, f1, f2, f3, f4, f5, f6⟩ := HMB.out.free
          have HM9 := Lib.hid (HMB.out.set2 sm)
          go_upto_region 20 with fail
          generalize wb.setCell ⟨A, 2, none⟩ (.int .i64 sm) = w9 at *
          clear h0 h1 h2 h3 h4 h5 h6 f0 f1 f2 f3 f4 f5 f6 HMB
          have k3 := HM9.out.holds.2.2.2.1
          have HMN := Lib.hid (fun n => HM9.out.drewN n)
          go_region_held3 (fun w' => w'.cell? ⟨A, 3, none⟩ = some (.int .i64 mn))
            (first
              | exact z3
              | exact (hM.set5 fi).holds.2.2.2.1
              | exact HM9.out.holds.2.2.2.1
              | exact (HMN.out 1).holds.2.2.2.1)
            ((go_at_call 31; refine (M6.out _ (HMN.out 1).pos).mono ?_; rintro e wt ⟨rfl, hct, hgt⟩; have hM := (HMN.out 1).num hct hgt; obtain ⟨z0, z1, z2, z3, z4, z5, z6⟩ := hM.holds; obtain ⟨f0, f1, f2, f3, f4, f5, f6⟩ := hM.free))
          have HM10 := Lib.hid (hM.set5 fi)
          clear z0 z1 z2 z3 z4 z5 z6 f0 f1 f2 f3 f4 f5 f6 hM hct hgt HMN k3
          generalize wt.setCell ⟨A, 5, none⟩ (.int .i64 fi) = w10 at *
          have k3 := HM10.out.holds.2.2.2.1
          have HMN := Lib.hid (fun n => HM10.out.drewN n)
          go_upto_region 21 with fail
          go_region_held3 (fun w' => w'.cell? ⟨A, 3, none⟩ = some (.int .i64 mn))
            (first
              | exact z3
              | exact (hM.set6 la).holds.2.2.2.1
              | exact HM10.out.holds.2.2.2.1
              | exact (HMN.out 1).holds.2.2.2.1)
            ((go_at_call 31; refine (M7.out _ (HMN.out 1).pos).mono ?_; rintro e wt ⟨rfl, hct, hgt⟩; have hM := (HMN.out 1).num hct hgt; obtain ⟨z0, z1, z2, z3, z4, z5, z6⟩ := hM.holds; obtain ⟨f0, f1, f2, f3, f4, f5, f6⟩ := hM.free))
          have HM11 := Lib.hid (hM.set6 la)
          clear z0 z1 z2 z3 z4 z5 z6 f0 f1 f2 f3 f4 f5 f6 hM hct hgt HMN k3
          generalize wt.setCell ⟨A, 6, none⟩ (.int .i64 la) = w11 at *
          have HM12 : Hid (AMid w w11 g s q7 b7 u6 out A ⟨fr, (C2 : Int) + 1, sm, mn, mx, fi, la⟩) := Lib.hid HM11.out
          have hsz := HM12.out.grown.size
          obtain ⟨h0, h1, h2, h3, h4, h5, h6⟩ := HM12.out.holds
          have HO : Hid ((w11.alloc (.cells #[.int .i64 fr, .int .i64 ((C2 : Int) + 1), .int .i64 sm, .int .i64 mn, .int .i64 mx, .int .i64 fi, .int .i64 la] 50)).ownsRow w.heap.size 50 7 u6 out.length (aggV out)) := Lib.hid (own7_below HM12.out.own (past_alloc (Below.refl _ _) _))
          have HNW : Hid (∀ j u, (Ag.cells ⟨fr, (C2 : Int) + 1, sm, mn, mx, fi, la⟩)[j]? = some u → (w11.alloc (.cells #[.int .i64 fr, .int .i64 ((C2 : Int) + 1), .int .i64 sm, .int .i64 mn, .int .i64 mx, .int .i64 fi, .int .i64 la] 50)).cell? ((⟨w11.heap.size, 0, none⟩ : Addr).add j) = some u) := Lib.hid (Holds.news (Holds.new w11 ⟨fr, (C2 : Int) + 1, sm, mn, mx, fi, la⟩))
          go_wp2_with (at_builtin; refine wpList_append_own _ rfl _ _ 23 rfl w.heap.size 50 i0 (.agg #[.int .i64 0, .int .i64 0, .int .i64 0, .int .i64 0, .int .i64 0, .int .i64 0, .int .i64 0]) 7 56 Tryz.underlying23 hi0 hz0 hz1 hz2 rfl (by decide) u6 out.length (aggV out) rfl HO.out ⟨w11.heap.size, 0, none⟩ 1 1 (Ag.cells ⟨fr, (C2 : Int) + 1, sm, mn, mx, fi, la⟩) rfl rfl HNW.out (cells_one _) ?c3 ?c4 ?c5 ?_)
          case c3 => unfold maxLen; omega
          case c4 => omega
          case c5 => (try simp); omega
          intro v' wa hown hgrow hnil
          have HA := Lib.hid (app7_num HGL.out HM12.out.pos HM12.out.grown HM12.out.own hgrow)
          have HN : Hid (AKInv w wa g s bs W R n (i + 1) (out ++ [⟨fr, (C2 : Int) + 1, sm, mn, mx, fi, la⟩]) v' q7 b7) := Lib.hid (HI.out.next hlt HBY.out HX.out HA.out.1 HA.out.2 (by rw [aggV_append, aggV_one, hol]; exact hown))
          clear hown hgrow hnil h0 h1 h2 h3 h4 h5 h6
          go_wp2
          go_roundw
          case rel => exact ⟨_, i + 1, q7, b7, by omega, by go_num, HN⟩
          case measure => simp [intOf]; omega
        · obtain rfl : C2 = 0 := by omega
          have HX : Hid (rAg bs W (preAt out i) p false = (⟨fr, 1, mn, mn, mn, mn, mn⟩, q3, b3)) := Lib.hid (by
            obtain ⟨e1, hB1, e2, e3, hmn, hG, hfr, hC2⟩ := HE.out
            unfold rAg
            simp only [e1, hB1, e2, e3, hmn, hG, hfr, hC2]
            rfl)
          have HM7 : Hid (AMid w w7 g s q3 b3 u6 out A ⟨fr, 1, mn, mn, mn, mn, mn⟩) := Lib.hid HM6.out
          obtain ⟨h0, h1, h2, h3, h4, h5, h6⟩ := HM7.out.holds
          have HO : Hid ((w7.alloc (.cells #[.int .i64 fr, .int .i64 1, .int .i64 mn, .int .i64 mn, .int .i64 mn, .int .i64 mn, .int .i64 mn] 50)).ownsRow w.heap.size 50 7 u6 out.length (aggV out)) := Lib.hid (own7_below HM6.out.own (past_alloc (Below.refl _ _) _))
          have HNW : Hid (∀ j u, (Ag.cells ⟨fr, 1, mn, mn, mn, mn, mn⟩)[j]? = some u → (w7.alloc (.cells #[.int .i64 fr, .int .i64 1, .int .i64 mn, .int .i64 mn, .int .i64 mn, .int .i64 mn, .int .i64 mn] 50)).cell? ((⟨w7.heap.size, 0, none⟩ : Addr).add j) = some u) := Lib.hid (Holds.news (Holds.new w7 ⟨fr, 1, mn, mn, mn, mn, mn⟩))
          go_wp2_with (at_builtin; refine wpList_append_own _ rfl _ _ 23 rfl w.heap.size 50 i0 (.agg #[.int .i64 0, .int .i64 0, .int .i64 0, .int .i64 0, .int .i64 0, .int .i64 0, .int .i64 0]) 7 56 Tryz.underlying23 hi0 hz0 hz1 hz2 rfl (by decide) u6 out.length (aggV out) rfl HO.out ⟨w7.heap.size, 0, none⟩ 1 1 (Ag.cells ⟨fr, 1, mn, mn, mn, mn, mn⟩) rfl rfl HNW.out (cells_one _) ?c3 ?c4 ?c5 ?_)
          case c3 => unfold maxLen; omega
          case c4 => omega
          case c5 => (try simp); omega
          intro v' wa hown hgrow hnil
          have HA := Lib.hid (app7_num HGL.out HM6.out.pos HM6.out.grown HM6.out.own hgrow)
          have HN : Hid (AKInv w wa g s bs W R n (i + 1) (out ++ [⟨fr, 1, mn, mn, mn, mn, mn⟩]) v' q3 b3) := Lib.hid (HI.out.next hlt HBY.out HX.out HA.out.1 HA.out.2 (by rw [aggV_append, aggV_one, hol]; exact hown))
          clear hown hgrow hnil h0 h1 h2 h3 h4 h5 h6
          go_wp2
          go_roundw
          case rel => exact ⟨_, i + 1, q3, b3, by omega, by go_num, HN⟩
          case measure => simp [intOf]; omega
    · have HD := Lib.hid (HI.out.done hgo)
      by_cases hlt : i < n
      case' pos =>
        have hb : bad = true := by cases bad <;> simp_all
        subst hb
        have i1 : (i : Int) < (n : Int) := by omega
      case' neg =>
        have i1 : ¬ (i : Int) < (n : Int) := by omega
      all_goals
        clear hgo
        go_wp2
        (try rw [Exit.noGoto_ret])
        go_ret
        exact ⟨_, rfl, by rw [HD.out]; exact HI.out.own, by rw [HD.out]; exact HI.out.ok, by rw [HD.out]; exact HI.out.pos, by rw [HD.out]; exact HI.out.le, HI.out.grown⟩
end Go.Proofs.YtepancmkopifpaaGreatDoor
namespace Go.Proofs.YtepancmkopifpaaGreatDoor
open Go.RowKit
attribute [local go_sem ↓] Go.wp_at_zero Go.wp_at_succ
set_option linter.unusedVariables false

set_option maxRecDepth 100000 in
set_option maxHeartbeats 1000000 in
theorem aggs_many (bs : List Nat) (g : Nat) (s : ByteArray) (p : Nat) (bad : Bool) (k : Int) (w : World) (h : CAt w g s p bad) (hs : StrIs s bs) (hp : p ≤ bs.length) (hk : coarse k) (h64 : 64 < (numR bs p bad).1) :
    Calls Tryz.prog 33 #[.pointer (some ⟨g, 0, none⟩), .int .i64 k] w (AggPost bs g s (ablkAt bs (wid k) p bad) w) := by
  have MN := Lib.hid (fun w p bad h hp => num_any bs g s p bad w h hs hp)
  have HNL := Lib.hid (fun p bad hp => numR_le (bs := bs) (p := p) (bad := bad) hs.2.1 hp)
  have MW := Lib.hid (fun w => rwidth_any k w (by unfold coarse at hk; unfold In64; omega))
  have H := Lib.hid h
  have HP := Lib.hid hp
  have HL0 := HNL.out p bad hp
  have HR : Hid (ablkAt bs (wid k) p bad = ([], (numR bs p bad).2.1, true)) := Lib.hid (by
    unfold ablkAt
    rw [decide_eq_true h64, Bool.or_true]
    obtain ⟨m, hm⟩ : ∃ m, (numR bs p bad).1 = m + 1 := ⟨(numR bs p bad).1 - 1, by omega⟩
    rw [hm]
    rfl)
  rw [HR.out]
  clear hs h hp HR hk
  generalize wid k = W at *
  go_enter Tryz.func33, Tryz.ntmps33
  go_wp2_with fail
  refine (MN.out _ _ _ H.out HP.out).mono ?_
  rintro e w1 ⟨rfl, hc1, hg1⟩
  generalize numR bs p bad = y at *
  obtain ⟨n, p1, bad1⟩ := y
  simp only at *
  have HC2 := Lib.hid (c_bad hc1)
  have HG2 := Lib.hid (hg1.trans (g_bad w1 g (.bool true)))
  have hcc := hc1.c2
  have hcf := hc1.f2
  have hc64 : (64 : Int) < (n : Int) := by omega
  have hown : Hid ((w1.setCell ⟨g, 2, none⟩ (.bool true)).ownsRow w.heap.size 50 7 (.slice none 0 0) 0 []) := Lib.hid (World.ownsRow_nil _ _ _ _)
  clear hc1 hg1 MN
  obtain ⟨N, hN⟩ : ∃ N, IntKind.i64.wrap (n : Int) = N := ⟨_, rfl⟩
  go_wp2_with fail
  refine (MW.out _).mono ?_
  rintro e w2 ⟨rfl, rfl⟩
  have cb := HC2.out.c2
  generalize w1.setCell ⟨g, 2, none⟩ (.bool true) = w3 at *
  by_cases h0 : 0 < N
  all_goals
    go_wp2
    refine wp_loop_rounds 1 ?_
    rw [rounds_succ]
    go_wp2
    (try rw [Exit.noGoto_ret])
    go_ret
    exact ⟨_, rfl, hown.out, fun _ h => by simp at h, HC2.out, HL0.1, HG2.out⟩
theorem aggs_any (bs : List Nat) (g : Nat) (s : ByteArray) (p : Nat) (bad : Bool) (k : Int) (w : World) (h : CAt w g s p bad) (hs : StrIs s bs) (hp : p ≤ bs.length) (hk : coarse k) :
    Calls Tryz.prog 33 #[.pointer (some ⟨g, 0, none⟩), .int .i64 k] w (AggPost bs g s (ablkAt bs (wid k) p bad) w) := by
  rcases Nat.lt_or_ge 64 (numR bs p bad).1 with h64 | h64
  · exact aggs_many bs g s p bad k w h hs hp hk h64
  · exact aggs_go bs g s p bad k w h hs hp hk h64
theorem own7_less {w : World} {base base' n : Nat} {V : Value} {xs : List Value} (h : w.ownsRow base 50 7 V n xs) (hb : base' ≤ base) : w.ownsRow base' 50 7 V n xs := by
  refine ⟨h.1, ?_⟩
  rcases h.2 with h | ⟨g, cap, cur, e, hg, r⟩
  · exact Or.inl h
  · exact Or.inr ⟨g, cap, cur, e, Nat.le_trans hb hg, r⟩
/-- What GetAggs returns, of a tier that there is. -/
def GetAPost (w : World) (r : Option (List Ag)) (e : Ending) (w' : World) : Prop :=
  (match r with
    | none => e = .returned (.tuple #[.slice none 0 0, .int .i64 2])
    | some l => ∃ V, e = .returned (.tuple #[V, .int .i64 0]) ∧ w'.ownsRow w.heap.size 50 7 V l.length (aggV l) ∧ ∀ a ∈ l, a.ok) ∧ Below w.heap.size w w'

end Go.Proofs.YtepancmkopifpaaGreatDoor
