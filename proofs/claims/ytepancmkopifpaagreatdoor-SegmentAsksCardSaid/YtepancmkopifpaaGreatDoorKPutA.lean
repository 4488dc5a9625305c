/-
  The landed block's PutAggs: what it returns of every row of windows; nothing that was there is written.
-/
import Derived.Test.YtepancmkopifpaaGreatDoorKPut
import Derived.Test.YtepancmkopifpaaGreatDoorBRPutB
namespace Go.Proofs.YtepancmkopifpaaGreatDoor
open Go.RowKit
attribute [local go_sem ↓] Go.wp_at_zero Go.wp_at_succ
set_option linter.unusedVariables false

theorem add_three (base g cap L : Nat) (d : List Nat) (x y z : Nat) (u : World) (ho : ownB u base g cap d) (hL : d.length = L) (hx : x < 18446744073709551616) (hy : y < 18446744073709551616) (hz : z < 18446744073709551616) (hd : L ≤ 5000) (hb : base ≤ u.heap.size) :
    Calls Tryz.prog 78 #[.slice (some ⟨g, 0, none⟩) L cap, .slice (some ⟨u.heap.size, 0, none⟩) 3 3] (u.alloc (.cells #[.int .u64 (x : Int), .int .u64 (y : Int), .int .u64 (z : Int)] 53)) (AddTo u base g d [x, y, z]) := by
  have hne : u.heap.size ≠ g := by have := ho.lt; omega
  have ho2 := ho.grown (g_all u (.cells #[.int .u64 (x : Int), .int .u64 (y : Int), .int .u64 (z : Int)] 53) none) (by simp)
  have h := add_any base g cap d u.heap.size 3 [x, y, z] _ ho2 (by intro n hn; simp at hn; rcases hn with rfl | rfl | rfl <;> assumption)
    (by intro j hj
        match j, hj with
        | 0, _ => simp
        | 1, _ => simp
        | 2, _ => simp) hne (by simp) (by simp) (by omega) (by simp; omega) (by simp)
  rw [← hL]
  refine h.mono ?_
  rintro e w' ⟨g', cap', rfl, h1, h2, h3⟩
  refine ⟨g', cap', _, rfl, rfl, h1, (g_all u _ _).trans h2, ?_⟩
  rcases h3 with h3 | h3
  · exact .inl h3
  · right
    have := (g_all u (.cells #[.int .u64 (x : Int), .int .u64 (y : Int), .int .u64 (z : Int)] 53) none).size
    omega
theorem add_four (base g cap L : Nat) (d : List Nat) (x y z t : Nat) (u : World) (ho : ownB u base g cap d) (hL : d.length = L) (hx : x < 18446744073709551616) (hy : y < 18446744073709551616) (hz : z < 18446744073709551616) (ht : t < 18446744073709551616) (hd : L ≤ 5000) (hb : base ≤ u.heap.size) :
    Calls Tryz.prog 78 #[.slice (some ⟨g, 0, none⟩) L cap, .slice (some ⟨u.heap.size, 0, none⟩) 4 4] (u.alloc (.cells #[.int .u64 (x : Int), .int .u64 (y : Int), .int .u64 (z : Int), .int .u64 (t : Int)] 53)) (AddTo u base g d [x, y, z, t]) := by
  have hne : u.heap.size ≠ g := by have := ho.lt; omega
  have ho2 := ho.grown (g_all u (.cells #[.int .u64 (x : Int), .int .u64 (y : Int), .int .u64 (z : Int), .int .u64 (t : Int)] 53) none) (by simp)
  have h := add_any base g cap d u.heap.size 4 [x, y, z, t] _ ho2 (by intro n hn; simp at hn; rcases hn with rfl | rfl | rfl | rfl <;> assumption)
    (by intro j hj
        match j, hj with
        | 0, _ => simp
        | 1, _ => simp
        | 2, _ => simp
        | 3, _ => simp) hne (by simp) (by simp) (by omega) (by simp; omega) (by simp)
  rw [← hL]
  refine h.mono ?_
  rintro e w' ⟨g', cap', rfl, h1, h2, h3⟩
  refine ⟨g', cap', _, rfl, rfl, h1, (g_all u _ _).trans h2, ?_⟩
  rcases h3 with h3 | h3
  · exact .inl h3
  · right
    have := (g_all u (.cells #[.int .u64 (x : Int), .int .u64 (y : Int), .int .u64 (z : Int), .int .u64 (t : Int)] 53) none).size
    omega
theorem Holds.grown {w w' : World} {g : Nat} {a : Ag} {row : Option Nat} (h : Holds w g a) (hg : w.grownBy w' row) (hne : some g ≠ row) : Holds w' g a := by
  have c := fun k => hg.cell_far ⟨g, k, none⟩ h.lt hne
  obtain ⟨h0, h1, h2, h3, h4, h5, h6⟩ := h
  unfold Holds
  simp only [c]
  exact ⟨h0, h1, h2, h3, h4, h5, h6⟩

/-- What the loop holds. -/
structure KWInv (w wr : World) (W : Int) (l : List Ag) (i : Nat) (p : Int) (g cap : Nat) (d : List Nat) : Prop where
  says : putA W l = d ++ bytesOf (aOn W p (l.drop i))
  len : d.length ≤ 10 + 70 * i
  own : ownB wr w.heap.size g cap d
  below : Below w.heap.size w wr
  al : AlOn W p (l.drop i)
  lo : 0 ≤ p ∧ p ≤ 1099511627777

set_option maxRecDepth 100000 in
set_option maxHeartbeats 4000000 in
theorem kputa_in (b off n cap : Nat) (l : List Ag) (k : Int) (w : World) (hl : l.length = n) (hS : Aggs w (some ⟨b, off, none⟩) l) (hc : n ≤ cap) (hm : cap ≤ maxLen) (hok : AOk k l) (hk : In64 k) (hw : Wid w) :
    Calls Tryz.prog 53 #[.slice (some ⟨b, off, none⟩) n cap, .int .i64 k] w (PutBPost w (putA (wid k) l)) := by
  have m0 := fun w (h : Aggs w (some ⟨b, off, none⟩) l) hw => aligned_any k hl h hc hm hk hw
  rw [decide_eq_true hok.1] at m0
  have M0 := Lib.hid m0
  have M1 := Lib.hid (fun w => put_any n w (by have := hok.2; omega))
  have mw := fun w hw => width_any k w hk hw
  have hn64 : (n : Int) ≤ 64 := by have := hok.2; omega
  have HW3 := Lib.hid (wid_three hok.1.1)
  have HAL := Lib.hid ((align_iff l hok.1.1).1 hok.1)
  have HS := Lib.hid hS
  have HL := Lib.hid hl
  have HWD := Lib.hid hw
  generalize wid k = W at *
  have MW := Lib.hid mw
  clear m0 hS hok hl hm mw hw
  go_enter Tryz.func53, Tryz.ntmps53
  go_wp2
  go_step3
  go_wp2_with fail
  refine (M0.out _ HS.out HWD.out).mono ?_
  rintro e w1 ⟨rfl, hb1⟩
  have HB1 := Lib.hid hb1
  clear hb1
  go_wp2_with fail
  refine (M1.out _).mono ?_
  rintro e w2 ⟨g0, cap0, rfl, hown2, hb2⟩
  have HI0 : Hid (KWInv w w2 W l 0 0 g0 cap0 (enc n)) := Lib.hid (by
    have hB := past HB1.out hb2
    have ho : ownB w2 w.heap.size g0 cap0 (enc n) := by
      unfold ownB
      refine ⟨hown2.1, ?_⟩
      rcases hown2.2 with h | ⟨g, cap, cur, e, hg, r⟩
      · exact Or.inl h
      · exact Or.inr ⟨g, cap, cur, e, Nat.le_trans HB1.out.size hg, r⟩
    exact ⟨by unfold putA; rw [bytesOf_cons, HL.out]; rfl, by have := enc_len_le (n := n) (by omega); omega, ho, hB, HAL.out, by omega⟩)
  have HW2 := Lib.hid (HWD.out.below HI0.out.below)
  clear hb2 HB1 M0 M1 hown2
  generalize hg0 : (enc n).length = E0
  go_wp2_with fail
  refine (MW.out _ HW2.out).mono ?_
  rintro e w2' ⟨rfl, rfl⟩
  go_wp2
  go_step3
  go_wp2
  go_loopw [6, 8, 29] (fun s6 s8 s29 wr => ∃ (i : Nat) (p : Int) (g cap L : Nat) (d : List Nat), i ≤ n ∧ s6 = .slice (some ⟨g, 0, none⟩) L cap ∧ s8 = .int .i64 p ∧ s29 = .int .i64 (i : Int) ∧ Hid (d.length = L) ∧ Hid (KWInv w wr W l i p g cap d)) (fun _ _ s29 _ => n - (intOf s29).toNat)
  case atStart => exact ⟨0, 0, g0, cap0, E0, enc n, by omega, rfl, rfl, rfl, Lib.hid hg0, HI0⟩
  case round =>
    clear HI0 hg0 HW2
    obtain ⟨i, p, g, cap2, L, d, hi, rfl, rfl, rfl, HLD, HI⟩ := hrel
    by_cases hlt : i < n
    · have i1 : (i : Int) < (n : Int) := by omega
      have i0 : (0 : Int) ≤ (i : Int) := by omega
      have hdr := ag_drop (l := l) (i := i) (by rw [HL.out]; exact hlt)
      obtain ⟨b', o', e, hcc⟩ := (HS.out.below HI.out.below).2 (by rw [HL.out]; omega)
      injection e with e
      injection e with e1 e2
      subst e1 e2
      have hcell := hcc i (by rw [HL.out]; exact hlt)
      have hok := HS.out.1 (agAt l i) (agg_mem (by rw [HL.out]; exact hlt))
      have hal := HI.out.al
      have hsay := HI.out.says
      rw [hdr] at hal hsay
      generalize agAt l i = a at *
      obtain ⟨h1, h2, h3, h4⟩ := hal
      have hlo := HI.out.lo
      have hfb := h1.1
      have hcb := h1.2.1
      unfold Ag.begin_ at hfb
      unfold Ag.count at hcb
      obtain ⟨fr, cn, sm, mn, mx, fi, la⟩ := a
      simp only at hfb hcb h2 h3 h4
      obtain ⟨c0, c1, c2, c3, c4, c5, c6⟩ := hcell
      simp only at c0 c1 c2 c3 c4 c5 c6
      obtain ⟨P, hP⟩ : ∃ P, fr / W = P := ⟨_, rfl⟩
      have hPq : IntKind.i64.wrap (fr.tdiv W) = P := by
        rw [Int.tdiv_eq_ediv_of_nonneg (by omega), IntKind.wrap_i64, ← hP]
        rcases HW3.out with e | e | e <;> rw [e] <;> omega
      have hPb : 0 ≤ P ∧ P ≤ 1099511627776 := by
        rw [← hP]
        rcases HW3.out with e | e | e <;> rw [e] <;> omega
      have hW0 : ¬ W = 0 := by have := HW3.out; omega
      rw [hP] at h3 h4
      obtain ⟨F, hF⟩ : ∃ F : Nat, (P - p).toNat = F := ⟨_, rfl⟩
      obtain ⟨C, hC⟩ : ∃ C : Nat, (cn - 1).toNat = C := ⟨_, rfl⟩
      have hFi : IntKind.i64.wrap (P - p) = (F : Int) := by rw [IntKind.wrap_i64]; omega
      have hFu : IntKind.u64.wrap (F : Int) = (F : Int) := by rw [IntKind.wrap_u64]; omega
      have hCi : IntKind.i64.wrap (cn - 1) = (C : Int) := by rw [IntKind.wrap_i64]; omega
      have hCu : IntKind.u64.wrap (C : Int) = (C : Int) := by rw [IntKind.wrap_u64]; omega
      have hP1 : IntKind.i64.wrap (P + 1) = P + 1 := by rw [IntKind.wrap_i64]; omega
      obtain ⟨o0, o1, o2, o3, o4, o5, o6⟩ := hok
      simp only at o0 o1 o2 o3 o4 o5 o6
      obtain ⟨z1, z2⟩ := zig_nat o3
      have m2 := fun w => zig_any mn w o3.1 o3.2
      obtain ⟨M, hM⟩ : ∃ M, (zig mn).toNat = M := ⟨_, rfl⟩
      rw [hM] at z1 z2
      rw [← z1] at m2
      have M2 := Lib.hid m2
      have hLe : L ≤ 4500 := by have := HI.out.len; have := HLD.out; omega
      have HB1 := Lib.hid (past_alloc HI.out.below (.cells #[.int .i64 fr, .int .i64 cn, .int .i64 sm, .int .i64 mn, .int .i64 mx, .int .i64 fi, .int .i64 la] 50))
      have HO1 := Lib.hid (HI.out.own.grown (g_all wr (.cells #[.int .i64 fr, .int .i64 cn, .int .i64 sm, .int .i64 mn, .int .i64 mx, .int .i64 fi, .int .i64 la] 50) none) (by simp))
      have HH : Hid (Holds (wr.alloc (.cells #[.int .i64 fr, .int .i64 cn, .int .i64 sm, .int .i64 mn, .int .i64 mx, .int .i64 fi, .int .i64 la] 50)) wr.heap.size ⟨fr, cn, sm, mn, mx, fi, la⟩) := Lib.hid (by unfold Holds; simp)
      have HNG : Hid (wr.heap.size ≠ g) := Lib.hid (by have := HI.out.own.lt; omega)
      have HFB := Lib.hid (show F < 18446744073709551616 ∧ C < 18446744073709551616 ∧ M < 18446744073709551616 by omega)
      have HONE : Hid (aOne W p ⟨fr, cn, sm, mn, mx, fi, la⟩ = F :: C :: M :: (if 1 < cn then [(mx - mn).toNat, (zig sm).toNat, (fi - mn).toNat, (la - mn).toNat] else [])) := Lib.hid (by unfold aOne; simp only; rw [hP, hF, hC, hM])
      have HNX : Hid (∀ wa g2 cap3 X, F :: C :: M :: (if 1 < cn then [(mx - mn).toNat, (zig sm).toNat, (fi - mn).toNat, (la - mn).toNat] else []) = X → X.length ≤ 7 → (∀ n ∈ X, n < 18446744073709551616) → ownB wa w.heap.size g2 cap3 (d ++ bytesOf X) → Below w.heap.size w wa → KWInv w wa W l (i + 1) (P + 1) g2 cap3 (d ++ bytesOf X)) := Lib.hid (fun wa g2 cap3 X hX hX7 hXn h1 h2 => by
        refine ⟨?_, ?_, h1, h2, h4, by omega⟩
        · rw [hsay, aOn, HONE.out, hX, bytesOf_app, hP]
          simp
        · have := HI.out.len
          have := bytesOf_len X hXn
          rw [List.length_append]
          omega)
      have HMAY := Lib.hid h1
      have HO := Lib.hid (show In64 sm ∧ In64 mn ∧ In64 mx ∧ In64 fi ∧ In64 la from ⟨o2, o3, o4, o5, o6⟩)
      have HCB := Lib.hid hcb
      clear hdr hsay h1 h2 h3 h4 hlo hfb hcb hP hPb hF hC hM o0 o1 o2 o3 o4 o5 o6 z1 z2 m2 hcc HONE
      go_upto_region 10 with fail
      generalize wr.alloc (.cells #[.int .i64 fr, .int .i64 cn, .int .i64 sm, .int .i64 mn, .int .i64 mx, .int .i64 fi, .int .i64 la] 50) = ws at *
      generalize wr.heap.size = gs at *
      clear c0 c1 c2 c3 c4 c5 c6 hPq
      have HST : Hid (∀ w' row, ws.grownBy w' row → some gs ≠ row → w'.cell? ⟨gs, 1, none⟩ = some (.int .i64 cn) ∧ w'.cell? ⟨gs, 3, none⟩ = some (.int .i64 mn)) := Lib.hid (fun w' row h1 h2 => ⟨(HH.out.grown h1 h2).2.1, (HH.out.grown h1 h2).2.2.2.1⟩)
      have MA : Hid (∀ u : World, ws.grownBy u none → Calls Tryz.prog 78 #[.slice (some ⟨g, 0, none⟩) L cap2, .slice (some ⟨u.heap.size, 0, none⟩) 3 3] (u.alloc (.cells #[.int .u64 (F : Int), .int .u64 (C : Int), .int .u64 (M : Int)] 53)) (AddTo u w.heap.size g d [F, C, M])) := Lib.hid (fun u hu => add_three w.heap.size g cap2 L d F C M u (HO1.out.grown hu (by simp)) HLD.out HFB.out.1 HFB.out.2.1 HFB.out.2.2 (by omega) (Nat.le_trans HB1.out.size hu.size))
      obtain ⟨cz0, cz1⟩ := HST.out ws none (grown_of (Below.refl ws.heap.size ws) none) (by simp)
      go_region_held3 (fun w' => w'.cell? ⟨gs, 1, none⟩ = some (.int .i64 cn) ∧ w'.cell? ⟨gs, 3, none⟩ = some (.int .i64 mn))
        (first
          | exact hS2
          | exact HST.out _ none (g_drew ws 1 none) (by simp)
          | exact HST.out _ none ((g_drew ws 1 none).trans (g_all _ _ none)) (by simp)
          | exact HST.out _ none (grown_of (Below.refl _ _) none) (by simp))
        (first
          | (go_at_call 79; refine (M2.out _).mono ?_; rintro e wt ⟨rfl, rfl⟩)
          | (go_at_call 78; refine (MA.out _ (g_drew ws 1 none)).mono ?_; rintro e wt ⟨g2, cap3, L2, rfl, hL2, hown2, hg2, hat⟩; have hS2 := HST.out wt (some g) ((g_drew ws 1 (some g)).trans hg2) (fun e => HNG.out (by injection e))))
      have HH2 := Lib.hid (HH.out.grown ((g_drew ws 1 (some g)).trans hg2) (fun e => HNG.out (by injection e)))
      have HO2 := Lib.hid hown2
      have HB2 : Hid (Below w.heap.size w wt) := Lib.hid (HB1.out.grown ((g_drew ws 1 (some g)).trans hg2) HB1.out.size (fun k e => by injection e with e; subst e; exact HO1.out.lt.1))
      have HNG2 : Hid (gs ≠ g2) := Lib.hid (by
        rcases hat with e | e
        · rw [e]; exact HNG.out
        · have := HH.out.lt
          have e2 : (ws.drewN 1).heap.size = ws.heap.size := rfl
          omega)
      have HL2 := Lib.hid hL2
      have hL2e : L2 ≤ 5000 := by
        rw [← hL2, List.length_append]
        have h7 := bytesOf_len [F, C, M] (by intro n hn; have := HFB.out; simp at hn; omega)
        have h8 := HLD.out
        simp only [List.length_cons, List.length_nil] at h7
        omega
      have k1 := HH2.out.2.1
      clear hS2 hL2 hown2 hg2 hat cz0 cz1 HST MA hFi hFu hCi hCu M2
      by_cases hcn : cn = 1
      · have hce : (cn == 1) = true := by simpa using hcn
        have HX : Hid (F :: C :: M :: (if 1 < cn then [(mx - mn).toNat, (zig sm).toNat, (fi - mn).toNat, (la - mn).toNat] else []) = [F, C, M]) := Lib.hid (by rw [if_neg (by omega)])
        have HN : Hid (KWInv w wt W l (i + 1) (P + 1) g2 cap3 (d ++ bytesOf [F, C, M])) := Lib.hid (HNX.out _ g2 cap3 _ HX.out (by simp) (by intro n hn; have := HFB.out; simp at hn; omega) HO2.out HB2.out)
        clear hcn
        go_wp2
        go_roundw
        case rel => exact ⟨i + 1, P + 1, g2, cap3, L2, _, by omega, rfl, rfl, by go_num, HL2, HN⟩
        case measure => simp [intOf]; omega
      · have hce : (cn == 1) = false := by simpa using hcn
        have hcn1 : 1 < cn := by have := HCB.out; omega
        obtain ⟨q1, q2, q3, q4, q5⟩ := HO.out
        have hld := HMAY.out.2.2.1.1
        simp only at hld
        obtain ⟨X, x1, x2, x3⟩ := sub_nat q3 q2 hld.2.2
        obtain ⟨I, y1, y2, y3⟩ := sub_nat q4 q2 hld.1
        obtain ⟨J, v1, v2, v3⟩ := sub_nat q5 q2 hld.2.1
        obtain ⟨z1, z2⟩ := zig_nat q1
        have m3 := fun w => zig_any sm w q1.1 q1.2
        obtain ⟨S, hS⟩ : ∃ S, (zig sm).toNat = S := ⟨_, rfl⟩
        rw [hS] at z1 z2
        rw [← z1] at m3
        have M3 := Lib.hid m3
        have MX := Lib.hid (fun w => above_any mx mn X w x3)
        have MI := Lib.hid (fun w => above_any fi mn I w y3)
        have MJ := Lib.hid (fun w => above_any la mn J w v3)
        have HX : Hid (F :: C :: M :: (if 1 < cn then [(mx - mn).toNat, (zig sm).toNat, (fi - mn).toNat, (la - mn).toNat] else []) = [F, C, M, X, S, I, J]) := Lib.hid (by rw [if_pos hcn1, x1, hS, y1, v1])
        have HXB := Lib.hid (show X < 18446744073709551616 ∧ S < 18446744073709551616 ∧ I < 18446744073709551616 ∧ J < 18446744073709551616 from ⟨x2, z2, y2, v2⟩)
        clear hcn hcn1 q1 q2 q3 q4 q5 hld x1 x2 x3 y1 y2 y3 v1 v2 v3 z1 z2 m3 hS
        go_upto_region 13 with fail
        clear k1
        have HST : Hid (∀ w' row, wt.grownBy w' row → some gs ≠ row → w'.cell? ⟨gs, 2, none⟩ = some (.int .i64 sm) ∧ w'.cell? ⟨gs, 3, none⟩ = some (.int .i64 mn) ∧ w'.cell? ⟨gs, 4, none⟩ = some (.int .i64 mx) ∧ w'.cell? ⟨gs, 5, none⟩ = some (.int .i64 fi) ∧ w'.cell? ⟨gs, 6, none⟩ = some (.int .i64 la)) := Lib.hid (fun w' row h1 h2 => (HH2.out.grown h1 h2).2.2)
        have MA : Hid (∀ u : World, wt.grownBy u none → Calls Tryz.prog 78 #[.slice (some ⟨g2, 0, none⟩) L2 cap3, .slice (some ⟨u.heap.size, 0, none⟩) 4 4] (u.alloc (.cells #[.int .u64 (X : Int), .int .u64 (S : Int), .int .u64 (I : Int), .int .u64 (J : Int)] 53)) (AddTo u w.heap.size g2 (d ++ bytesOf [F, C, M]) [X, S, I, J])) := Lib.hid (fun u hu => add_four w.heap.size g2 cap3 L2 _ X S I J u (HO2.out.grown hu (by simp)) HL2.out HXB.out.1 HXB.out.2.1 HXB.out.2.2.1 HXB.out.2.2.2 hL2e (Nat.le_trans HB2.out.size hu.size))
        obtain ⟨cz0, cz1, cz2, cz3, cz4⟩ := HST.out wt none (grown_of (Below.refl wt.heap.size wt) none) (by simp)
        go_region_held3 (fun w' => w'.cell? ⟨gs, 2, none⟩ = some (.int .i64 sm) ∧ w'.cell? ⟨gs, 3, none⟩ = some (.int .i64 mn) ∧ w'.cell? ⟨gs, 4, none⟩ = some (.int .i64 mx) ∧ w'.cell? ⟨gs, 5, none⟩ = some (.int .i64 fi) ∧ w'.cell? ⟨gs, 6, none⟩ = some (.int .i64 la))
          (first
            | exact hS2
            | exact HST.out _ none (g_drew wt 1 none) (by simp)
            | exact HST.out _ none ((g_drew wt 1 none).trans (g_all _ _ none)) (by simp)
            | exact HST.out _ none (grown_of (Below.refl _ _) none) (by simp))
          (first
            | (go_at_call 79; refine (M3.out _).mono ?_; rintro e wv ⟨rfl, rfl⟩)
            | (go_at_call_of 81 (Value.int .i64 mx); refine (MX.out _).mono ?_; rintro e wv ⟨rfl, rfl⟩)
            | (go_at_call_of 81 (Value.int .i64 fi); refine (MI.out _).mono ?_; rintro e wv ⟨rfl, rfl⟩)
            | (go_at_call_of 81 (Value.int .i64 la); refine (MJ.out _).mono ?_; rintro e wv ⟨rfl, rfl⟩)
            | (go_at_call 78; refine (MA.out _ (g_drew wt 1 none)).mono ?_; rintro e wv ⟨g4, cap4, L4, rfl, hL4, hown4, hg4, hat4⟩; have hS2 := HST.out wv (some g2) ((g_drew wt 1 (some g2)).trans hg4) (fun e => HNG2.out (by injection e))))
        have HL4 := Lib.hid hL4
        have HN : Hid (KWInv w wv W l (i + 1) (P + 1) g4 cap4 ((d ++ bytesOf [F, C, M]) ++ bytesOf [X, S, I, J])) := Lib.hid (by
          have e : (d ++ bytesOf [F, C, M]) ++ bytesOf [X, S, I, J] = d ++ bytesOf [F, C, M, X, S, I, J] := by simp [bytesOf]
          rw [e] at hown4 ⊢
          exact HNX.out _ g4 cap4 _ HX.out (by simp) (by intro n hn; have := HFB.out; have := HXB.out; simp at hn; omega) hown4 (HB2.out.grown ((g_drew wt 1 (some g2)).trans hg4) HB2.out.size (fun k e => by injection e with e; subst e; exact HO2.out.lt.1)))
        clear hS2 hL4 hown4 hg4 hat4 cz0 cz1 cz2 cz3 cz4 HST MA
        go_wp2
        go_roundw
        case rel => exact ⟨i + 1, P + 1, g4, cap4, L4, _, by omega, rfl, rfl, by go_num, HL4, HN⟩
        case measure => simp [intOf]; omega
    · obtain rfl : i = n := by omega
      have HF : Hid (PutBPost w (putA W l) (.returned (.tuple #[.slice (some ⟨g, 0, none⟩) L cap2, .int .i64 0])) wr) := Lib.hid (by
        have h3 : l.drop i = [] := List.drop_eq_nil_of_le (Nat.le_of_eq HL.out)
        have e2 := HI.out.says
        rw [h3] at e2
        simp only [aOn, bytesOf, List.flatMap_nil, List.append_nil] at e2
        rw [e2]
        exact ⟨g, cap2, by rw [HLD.out], HI.out.own, HI.out.below⟩)
      go_wp2
      (try rw [Exit.noGoto_ret])
      go_ret2
      exact HF.out

set_option maxRecDepth 100000 in
theorem kputa_none (A : Option Addr) (cap : Nat) (k : Int) (w : World) (hk : coarse k) (hw : Wid w) :
    Calls Tryz.prog 53 #[.slice A 0 cap, .int .i64 k] w (PutBPost w (putA (wid k) [])) := by
  have M0 := Lib.hid (fun w => aligned_none A cap k w hk)
  have M1 : Hid (∀ w, Calls Tryz.prog 22 #[.int .u64 0] w (PutPost 0 w)) := Lib.hid (fun w => put_any 0 w (by decide))
  have MW := Lib.hid (fun w hw => width_any k w (by unfold coarse at hk; unfold In64; omega) hw)
  have HP : Hid (putA (wid k) [] = enc 0) := Lib.hid (by simp [putA, aOn, bytesOf])
  have HWD := Lib.hid hw
  rw [HP.out]
  generalize wid k = W at *
  clear hk hw
  go_enter Tryz.func53, Tryz.ntmps53
  go_wp2
  go_step3
  go_wp2_with fail
  refine (M0.out _).mono ?_
  rintro e w1 ⟨rfl, hb1⟩
  have HB1 := Lib.hid hb1
  clear hb1
  go_wp2_with fail
  refine (M1.out _).mono ?_
  rintro e w2 ⟨g0, cap0, rfl, hown2, hb2⟩
  have HF : Hid (PutBPost w (enc 0) (.returned (.tuple #[.slice (some ⟨g0, 0, none⟩) (enc 0).length cap0, .int .i64 0])) w2) := Lib.hid (by
    have hB := past HB1.out hb2
    have ho : ownB w2 w.heap.size g0 cap0 (enc 0) := by
      unfold ownB
      refine ⟨hown2.1, ?_⟩
      rcases hown2.2 with h | ⟨g, cap, cur, e, hg, r⟩
      · exact Or.inl h
      · exact Or.inr ⟨g, cap, cur, e, Nat.le_trans HB1.out.size hg, r⟩
    exact ⟨g0, cap0, rfl, ho, hB⟩)
  have HW2 := Lib.hid (HWD.out.below (past HB1.out hb2))
  clear hb2 hown2
  generalize (enc 0).length = E0 at *
  go_wp2_with fail
  refine (MW.out _ HW2.out).mono ?_
  rintro e w2' ⟨rfl, rfl⟩
  go_wp2
  go_step3
  go_wp2
  refine wp_loop_rounds 1 ?_
  rw [rounds_succ]
  go_wp2
  (try rw [Exit.noGoto_ret])
  go_ret2
  exact HF.out

set_option maxRecDepth 100000 in
theorem kputa_not {A : Option Addr} {len cap : Nat} {l : List Ag} {w : World} (k : Int) (hl : l.length = len) (hS : Aggs w A l) (hc : len ≤ cap) (hm : cap ≤ maxLen) (hk : In64 k) (hw : Wid w) (h : ¬ AOk k l) :
    Calls Tryz.prog 53 #[.slice A len cap, .int .i64 k] w fun e w' => e = .returned (.tuple #[.slice none 0 0, .int .i64 1]) ∧ Below w.heap.size w w' := by
  have m0 := aligned_any k hl hS hc hm hk hw
  by_cases h64 : 64 < len
  · have h64i : (64 : Int) < (len : Int) := by omega
    clear m0 h hS hl hc hm
    go_enter Tryz.func53, Tryz.ntmps53
    go_wp2
    go_step3
    go_wp2
    (try rw [Exit.noGoto_ret])
    go_ret2
    exact ⟨rfl, Below.refl _ _⟩
  · have h64i : ¬ (64 : Int) < (len : Int) := by omega
    have hr : ¬ Align l k := fun hr => h ⟨hr, by omega⟩
    rw [decide_eq_false hr] at m0
    have M0 := Lib.hid m0
    clear m0 hr h hS hl hc hm
    go_enter Tryz.func53, Tryz.ntmps53
    go_wp2
    go_step3
    go_wp2_with fail
    refine M0.out.mono ?_
    rintro e w1 ⟨rfl, hb1⟩
    have HB1 := Lib.hid hb1
    clear hb1
    go_wp2
    (try rw [Exit.noGoto_ret])
    go_ret2
    exact ⟨rfl, HB1.out⟩

theorem kputa_any {A : Option Addr} {len cap : Nat} {l : List Ag} {w : World} (k : Int) (hl : l.length = len) (hS : Aggs w A l) (hc : len ≤ cap) (hm : cap ≤ maxLen) (hw : Wid w) (h : AOk k l) :
    Calls Tryz.prog 53 #[.slice A len cap, .int .i64 k] w (PutBPost w (putA (wid k) l)) := by
  have hk : In64 k := by have := h.1.1; unfold coarse at this; unfold In64; omega
  by_cases h0 : 0 < len
  · obtain ⟨b, off, rfl, _⟩ := hS.2 (by omega)
    exact kputa_in b off len cap l k w hl hS hc hm h hk hw
  · obtain rfl : len = 0 := by omega
    obtain rfl : l = [] := List.eq_nil_of_length_eq_zero hl
    exact kputa_none A cap k w h.1.1 hw
end Go.Proofs.YtepancmkopifpaaGreatDoor
