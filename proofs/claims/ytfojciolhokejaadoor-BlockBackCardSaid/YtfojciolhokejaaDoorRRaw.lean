/-
  The document's own answer for Raw: what it returns of every row of at most a thousand samples; nothing that was there is written.
-/
import Derived.Test.YtfojciolhokejaaDoorRAll
import Derived.Test.YtfojciolhokejaaDoorRRise
import Derived.Test.YtfojciolhokejaaDoorMath
namespace Go.Proofs.YtfojciolhokejaaDoor
open Go.RowKit
attribute [local go_sem ↓] Go.wp_at_zero Go.wp_at_succ
set_option linter.unusedVariables false

theorem tAt_drop (l : List (Int × Int)) (i j : Nat) : tAt (l.drop i) j = tAt l (i + j) := by
  unfold tAt
  rw [List.getD_eq_getElem?_getD, List.getD_eq_getElem?_getD, List.getElem?_drop]
theorem samp_drop {l : List (Int × Int)} {i : Nat} (h : i < l.length) : l.drop i = l.getD i (0, 0) :: l.drop (i + 1) := by
  rw [List.drop_eq_getElem_cons h]
  congr 1
  simp [h]
theorem rise_le {l : List (Int × Int)} (h : Rise l) {i j : Nat} (hij : i ≤ j) (hj : j < l.length) : tAt l i ≤ tAt l j := by
  rcases Nat.lt_or_ge i j with hlt | hge
  · have h1 := rise_drop i h
    rw [samp_drop (show i < l.length by omega)] at h1
    have hm : l.getD j (0, 0) ∈ l.drop (i + 1) := by
      have e : l.getD j (0, 0) = (l.drop (i + 1)).getD (j - (i + 1)) (0, 0) := by
        rw [List.getD_eq_getElem?_getD, List.getD_eq_getElem?_getD, List.getElem?_drop, show i + 1 + (j - (i + 1)) = j by omega]
      rw [e]
      exact sample_mem (by rw [List.length_drop]; omega)
    have := (rise_lt h1 _ hm).1
    unfold tAt
    omega
  · obtain rfl : i = j := by omega
    exact Int.le_refl _
/-- Where the document's search for a window's end stands is how many lie ahead of its end. -/
theorem window_cnt {l : List (Int × Int)} {k : Int} {i m : Nat} (hk : coarse k) (hr : Rise l) (hi : i < l.length) (him : i < m) (hm : m ≤ l.length)
    (h1 : ∀ j, i ≤ j → j < m → flr (tAt l j) k = flr (tAt l i) k) (h2 : m < l.length → flr (tAt l m) k ≠ flr (tAt l i) k) : cnt (flr (tAt l i) k + wid k) (l.drop (i + 1)) = m - (i + 1) := by
  refine cnt_eq (fun j hj => ?_) (by rw [List.length_drop]; omega) (fun hlt h => ?_)
  · rw [tAt_drop, ← h1 (i + 1 + j) (by omega) (by omega)]
    exact (flr_le hk (hr (i + 1 + j) (by omega)).1).2.2
  · rw [List.length_drop] at hlt
    rw [tAt_drop, show i + 1 + (m - (i + 1)) = m by omega] at h
    exact h2 (by omega) (flr_same hk (hr i hi).1 (hr m (by omega)).1 (rise_le hr (by omega) (by omega)) h)

/-- What the document's Raw holds in its loop. -/
structure RRawInv (w wr : World) (k : Int) (i : Nat) (l : List (Int × Int)) (out : List Ag) (v : Value) (R : List Ag × Int) : Prop where
  says : R = rawOn k out (l.drop i)
  room : out.length ≤ i
  own : wr.ownsRow w.heap.size 70 7 v out.length (aggV out)
  ok : ∀ a ∈ out, a.ok
  below : Below w.heap.size w wr

theorem RRawInv.past {w wr wx : World} {k : Int} {i : Nat} {l : List (Int × Int)} {out : List Ag} {v : Value} {R : List Ag × Int} (h : RRawInv w wr k i l out v R) (hb : Below wr.heap.size wr wx) : RRawInv w wx k i l out v R :=
  ⟨h.says, h.room, own7_below h.own hb, h.ok, Go.Proofs.YtfojciolhokejaaDoor.past h.below hb⟩

set_option maxRecDepth 100000 in
set_option maxHeartbeats 4000000 in
theorem rraw_in (b off n cap : Nat) (l : List (Int × Int)) (k : Int) (w : World) (hl : l.length = n) (h0 : 0 < n) (hS : Samps w (some ⟨b, off, none⟩) l) (hc : n ≤ cap) (hm : cap ≤ maxLen) (hk : coarse k) (hr : Rise l) (hn : n ≤ 1000) :
    Calls Tryd.prog 20 #[.slice (some ⟨b, off, none⟩) n cap, .int .i64 k] w (Gives w (rawOn k [] l)) := by
  have hk64 : In64 k := by unfold coarse at hk; unfold In64; omega
  have m1 := rrising_any hl hS hc hm
  rw [decide_eq_true hr] at m1
  have M1 := Lib.hid m1
  obtain ⟨R, hR⟩ : ∃ R, rawOn k [] l = R := ⟨_, rfl⟩
  rw [hR]
  unfold Gives
  have HSTART : Hid (∀ wr, Below w.heap.size w wr → RRawInv w wr k 0 l [] (.slice none 0 0) R) := Lib.hid (fun wr hb => ⟨hR.symm, by simp, World.ownsRow_nil _ _ _ _, by simp, hb⟩)
  have HCELL : Hid (∀ j, j < n → ∀ w', Below w.heap.size w w' → w'.cell? ⟨b, off + j * 2, none⟩ = some (.int .i64 (tAt l j))) := Lib.hid (fun j hj w' hb => by
    obtain ⟨b', o', e, hcc⟩ := (hS.below hb).2 (by omega)
    injection e with e
    injection e with e1 e2
    subst e1 e2
    exact (hcc j (by omega)).1)
  have HT64 : Hid (∀ j, j < n → In64 (tAt l j)) := Lib.hid (fun j hj => (hS.1 _ (sample_mem (by omega))).1)
  have HS := Lib.hid hS
  have HL := Lib.hid hl
  have HK := Lib.hid hk
  have HK64 := Lib.hid hk64
  have HRISE := Lib.hid hr
  have HMAX := Lib.hid hm
  unfold maxLen at hm
  unfold coarse at hk
  obtain ⟨k1, k3⟩ := hk
  have k1' : ¬ k < 1 := by omega
  have k3' : ¬ 3 < k := by omega
  have h0i : (0 : Int) < (n : Int) := by omega
  clear m1 hR hS hr hl hk64
  go_enter Tryd.func20, Tryd.ntmps20
  go_wp2_with fail
  refine M1.out.mono ?_
  rintro e w2 ⟨rfl, hb2⟩
  have HB2 := Lib.hid hb2
  clear hb2
  go_wp2
  go_loopw [6, 7] (fun so si wr => ∃ (out : List Ag) (i : Nat), i ≤ n ∧ si = .int .i64 (i : Int) ∧ Hid (RRawInv w wr k i l out so R)) (fun _ si _ => n - (intOf si).toNat)
  case atStart => exact ⟨[], 0, by omega, rfl, Lib.hid (HSTART.out _ HB2.out)⟩
  case round =>
    obtain ⟨out, i, hi, rfl, HI⟩ := hrel
    by_cases hlt : i < n
    · have i1 : (i : Int) < (n : Int) := by omega
      have i0 : (0 : Int) ≤ (i : Int) := by omega
      have HMF : Hid (∀ j, j < n → ∀ w', Calls Tryd.prog 41 #[.int .i64 (tAt l j), .int .i64 k] w' fun e w'' => e = .returned (.int .i64 (flr (tAt l j) k)) ∧ w' = w'') := Lib.hid (fun j hj w' => rfloor_any _ k w' (HT64.out j hj) HK64.out)
      obtain ⟨Fi, hFi⟩ : ∃ Fi, flr (tAt l i) k = Fi := ⟨_, rfl⟩
      have HFI := Lib.hid hFi
      have MI := Lib.hid (HMF.out i hlt)
      rw [hFi] at MI
      obtain ⟨ti, hti⟩ : ∃ ti, tAt l i = ti := ⟨_, rfl⟩
      have HTI := Lib.hid hti
      rw [hti] at MI
      clear hFi hti
      go_wp2
      go_loopw [8] (fun sn wx => ∃ (m : Nat), i ≤ m ∧ m ≤ n ∧ sn = .int .i64 (m : Int) ∧ Hid (∀ j, i ≤ j → j < m → flr (tAt l j) k = Fi) ∧ Hid (RRawInv w wx k i l out u6 R)) (fun sn _ => n - (intOf sn).toNat)
      case atStart => exact ⟨i, by omega, by omega, rfl, Lib.hid (fun j h1 h2 => absurd h1 (by omega)), HI⟩
      case round =>
        obtain ⟨m, him, hmn, rfl, HJ, HI2⟩ := hrel
        have ci := HCELL.out i hlt wr HI2.out.below
        rw [HTI.out] at ci
        by_cases hgo : m < n ∧ flr (tAt l m) k = Fi
        · obtain ⟨hm1, hm2⟩ := hgo
          have cm := HCELL.out m hm1 wr HI2.out.below
          have MM := Lib.hid (HMF.out m hm1)
          rw [hm2] at MM
          have HNX : Hid (∀ j, i ≤ j → j < m + 1 → flr (tAt l j) k = Fi) := Lib.hid (fun j h1 h2 => by
            rcases Nat.lt_or_ge j m with h3 | h3
            · exact HJ.out j h1 h3
            · obtain rfl : j = m := by omega
              exact hm2)
          generalize tAt l m = tm at cm MM
          have q1 : (m : Int) < (n : Int) := by omega
          have q0 : (0 : Int) ≤ (m : Int) := by omega
          clear hm2
          go_upto_region 7 with fail
          go_quiet (first | (go_at_call_of 41 (Value.int .i64 tm); exact quiet_same (MM.out _)) | (go_at_call_of 41 (Value.int .i64 ti); exact quiet_same (MI.out _)))
          have HI3 := Lib.hid (HI2.out.past (belowN wr nq))
          clear ci cm
          generalize wr.drewN nq = wy at *
          go_wp2
          go_roundw
          case rel => exact ⟨m + 1, by omega, by omega, by go_num, HNX, HI3⟩
          case measure => simp [intOf]; omega
        have hi2 : i < m := by
          rcases Nat.lt_or_ge i m with h | h
          · exact h
          · obtain rfl : i = m := by omega
            exact absurd ⟨hlt, HFI.out⟩ hgo
        have hbe : Ag.begin_ ti := by rw [← HTI.out]; exact (HRISE.out i (by rw [HL.out]; exact hlt)).1
        have hcn : cnt (flr (tAt l i) k + wid k) (l.drop (i + 1)) = m - (i + 1) := window_cnt HK.out HRISE.out (by rw [HL.out]; exact hlt) hi2 (by rw [HL.out]; exact hmn) (fun j h1 h2 => by rw [HJ.out j h1 h2, HFI.out]) (fun h1 h2 => hgo ⟨by rw [HL.out] at h1; exact h1, h2.trans HFI.out⟩)
        have hfb : Ag.begin_ Fi := by rw [← HFI.out]; rw [HTI.out]; exact flr_begin HK.out hbe
        have hx := rfl (a := all Fi ((l.getD i (0, 0)).2 :: ((l.drop (i + 1)).take (m - (i + 1))).map (·.2)))
        generalize hx1 : all Fi ((l.getD i (0, 0)).2 :: ((l.drop (i + 1)).take (m - (i + 1))).map (·.2)) = x at hx
        have hsay := rawOn_cons k out (l.getD i (0, 0)) (l.drop (i + 1)) (x := x) hcn (by
          have e : flr (l.getD i (0, 0)).1 k = Fi := HFI.out
          rw [e]; exact hx1)
        rw [← samp_drop (by rw [HL.out]; exact hlt), List.drop_drop, show i + 1 + (m - (i + 1)) = m by omega] at hsay
        have hxok := all_ok Fi hfb ((l.getD i (0, 0)).2 :: ((l.drop (i + 1)).take (m - (i + 1))).map (·.2)) (fun v hv => by
          rw [List.mem_cons] at hv
          rcases hv with rfl | hv
          · exact (HS.out.1 _ (sample_mem (by rw [HL.out]; exact hlt))).2
          · obtain ⟨s, hs, rfl⟩ := List.mem_map.1 hv
            exact (HS.out.1 s (List.mem_of_mem_drop (List.mem_of_mem_take hs))).2)
        rw [hx1] at hxok
        have hsub : ((l.drop i).take (m - i)).map (·.2) = (l.getD i (0, 0)).2 :: ((l.drop (i + 1)).take (m - (i + 1))).map (·.2) := by
          rw [samp_drop (by rw [HL.out]; exact hlt), show m - i = (m - (i + 1)) + 1 by omega, List.take_succ_cons, List.map_cons]
        have MA : Hid (∀ w', Below w.heap.size w w' → Calls Tryd.prog 42 #[.slice (some ⟨b, off + i * 2, none⟩) (m - i) (cap - i), .int .i64 Fi] w' fun e w'' => e = .returned (.tuple #[x.1.val, .int .i64 x.2]) ∧ Below w'.heap.size w' w'') := Lib.hid (fun w' hb => by
          have := rall_any (len := m - i) (cap := cap - i) Fi (by rw [List.length_take, List.length_drop, HL.out]; omega) (by omega) (((HS.out.below hb).rest i).sub (m - i)) (by omega) (by have := HMAX.out; omega) hfb
          rwa [hsub, hx1] at this)
        obtain ⟨xa, xc⟩ := x
        simp only at hsay hxok MA
        unfold Ag.val at MA
        have HSAY := Lib.hid hsay
        have HXOK := Lib.hid hxok
        have hrm : out.length + 1 ≤ 1000 := by have := HI2.out.room; omega
        clear hsay hxok hx hx1 hcn hsub hbe hfb
        have j1 : (m : Int) ≤ (cap : Int) := by omega
        have j2 : (i : Int) ≤ (m : Int) := by omega
        have j3 : (i : Int) < (cap : Int) := by omega
        have j4 : (0 : Int) ≤ (m : Int) := by omega
        have j5 : i < cap := by omega
        have j6 : (m : Int) ≤ (n : Int) := by omega
        by_cases hm1 : m < n
        case' pos =>
          have cm := HCELL.out m hm1 wr HI2.out.below
          have MM := Lib.hid (HMF.out m hm1)
          have hne : (flr (tAt l m) k == Fi) = false := by simpa using fun e => hgo ⟨hm1, e⟩
          generalize flr (tAt l m) k = Fm at MM hne
          generalize tAt l m = tm at cm MM
          have q1 : (m : Int) < (n : Int) := by omega
          clear hgo
          go_upto_region 7 with fail
          go_quiet (first | (go_at_call_of 41 (Value.int .i64 tm); exact quiet_same (MM.out _)) | (go_at_call_of 41 (Value.int .i64 ti); exact quiet_same (MI.out _)))
          clear cm
        case' neg =>
          have q1 : ¬ (m : Int) < (n : Int) := by omega
          have q2 : decide ((m : Int) < (n : Int)) = false := decide_eq_false q1
          clear hgo
          go_upto_region 7 with fail
          go_quiet (fail)
        all_goals
          have HI3 := Lib.hid (HI2.out.past (belowN wr nq))
          clear ci
          generalize wr.drewN nq = wy at *
          have ci := HCELL.out i hlt wy HI3.out.below
          rw [HTI.out] at ci
          have HSK : Hid (∀ w', Below wy.heap.size wy w' → w'.cell? ⟨b, off + i * 2, none⟩ = some (.int .i64 ti)) := Lib.hid (fun w' hb => by
            have := HCELL.out i hlt w' (past HI3.out.below hb)
            rwa [HTI.out] at this)
          have HMA : Hid (∀ w', Below wy.heap.size wy w' → Below w.heap.size w w') := Lib.hid (fun w' hb => past HI3.out.below hb)
          go_upto_region 9 with fail
          go_region_held3 (fun w' => w'.cell? ⟨b, off + i * 2, none⟩ = some (.int .i64 ti))
            ((refine HSK.out _ ?_
              first
                | with_reducible exact hB
                | with_reducible exact past_alloc hB _
                | with_reducible exact below_set hB (Nat.le_refl _) _ _ _ _ _ _ _
                | exact belowN wy 1
                | exact past_alloc (belowN wy 1) _
                | exact past (past_alloc (Below.refl _ _) _) (belowN _ 1)))
            (first
              | (go_at_call 41; refine (MI.out _).mono ?_; rintro e wt ⟨rfl, rfl⟩)
              | (go_at_call 42
                 first
                   | (refine (MA.out _ (HMA.out _ (belowN wy 1))).mono ?_; rintro e wt ⟨rfl, hbt⟩; have hB : Below wy.heap.size wy wt := (belowN wy 1).trans hbt)
                   | (refine (MA.out _ (HMA.out _ (past (past_alloc (Below.refl wy.heap.size wy) (.cells #[.int .i64 0, .int .i64 0, .int .i64 0, .int .i64 0, .int .i64 0, .int .i64 0, .int .i64 0] 70)) (belowN _ 1)))).mono ?_; rintro e wt ⟨rfl, hbt⟩
                      have hbt' := (belowN (wy.alloc (.cells #[.int .i64 0, .int .i64 0, .int .i64 0, .int .i64 0, .int .i64 0, .int .i64 0, .int .i64 0] 70)) 1).trans hbt
                      have hB : Below wy.heap.size wy wt := past (past_alloc (Below.refl _ _) _) hbt'
                      have hz8 : Holds wt wy.heap.size Ag.zero := (zero_new wy).1.below hbt'
                      have hf8 : Free wt wy.heap.size := (zero_new wy).2.1.below (zero_new wy).2.2 hbt'
                      unfold Ag.zero at hz8
                      obtain ⟨z0, z1, z2, z3, z4, z5, z6⟩ := hz8
                      obtain ⟨f0, f1, f2, f3, f4, f5, f6⟩ := hf8)))
        all_goals first
          | (have hk8 := z0
             have HT : Hid (Holds (((((((wt.setCell ⟨wy.heap.size, 0, none⟩ (.int .i64 xa.fr)).setCell ⟨wy.heap.size, 1, none⟩ (.int .i64 xa.cn)).setCell ⟨wy.heap.size, 2, none⟩ (.int .i64 xa.sm)).setCell ⟨wy.heap.size, 3, none⟩ (.int .i64 xa.mn)).setCell ⟨wy.heap.size, 4, none⟩ (.int .i64 xa.mx)).setCell ⟨wy.heap.size, 5, none⟩ (.int .i64 xa.fi)).setCell ⟨wy.heap.size, 6, none⟩ (.int .i64 xa.la)) wy.heap.size xa ∧ (((((((wt.setCell ⟨wy.heap.size, 0, none⟩ (.int .i64 xa.fr)).setCell ⟨wy.heap.size, 1, none⟩ (.int .i64 xa.cn)).setCell ⟨wy.heap.size, 2, none⟩ (.int .i64 xa.sm)).setCell ⟨wy.heap.size, 3, none⟩ (.int .i64 xa.mn)).setCell ⟨wy.heap.size, 4, none⟩ (.int .i64 xa.mx)).setCell ⟨wy.heap.size, 5, none⟩ (.int .i64 xa.fi)).setCell ⟨wy.heap.size, 6, none⟩ (.int .i64 xa.la)).ownsRow w.heap.size 70 7 u6 out.length (aggV out) ∧ Below w.heap.size w (((((((wt.setCell ⟨wy.heap.size, 0, none⟩ (.int .i64 xa.fr)).setCell ⟨wy.heap.size, 1, none⟩ (.int .i64 xa.cn)).setCell ⟨wy.heap.size, 2, none⟩ (.int .i64 xa.sm)).setCell ⟨wy.heap.size, 3, none⟩ (.int .i64 xa.mn)).setCell ⟨wy.heap.size, 4, none⟩ (.int .i64 xa.mx)).setCell ⟨wy.heap.size, 5, none⟩ (.int .i64 xa.fi)).setCell ⟨wy.heap.size, 6, none⟩ (.int .i64 xa.la))) := Lib.hid (by
               have hno : u6.ownBlock ≠ some wy.heap.size := fun e => by
                 have := (HI3.out.own.lt _ e).2
                 omega
               refine ⟨holds_set (a0 := Ag.zero) ⟨z0, z1, z2, z3, z4, z5, z6⟩, ?_, below_set (past HI3.out.below hB) HI3.out.below.size _ _ _ _ _ _ _⟩
               exact ownsRow_setCell_other (ownsRow_setCell_other (ownsRow_setCell_other (ownsRow_setCell_other (ownsRow_setCell_other (ownsRow_setCell_other (ownsRow_setCell_other (own7_below HI3.out.own hB) hno _) hno _) hno _) hno _) hno _) hno _) hno _)
             clear hk8 z0 z1 z2 z3 z4 z5 z6 f0 f1 f2 f3 f4 f5 f6 hbt hbt' hB ci HSK HMA MA
             generalize (((((((wt.setCell ⟨wy.heap.size, 0, none⟩ (.int .i64 xa.fr)).setCell ⟨wy.heap.size, 1, none⟩ (.int .i64 xa.cn)).setCell ⟨wy.heap.size, 2, none⟩ (.int .i64 xa.sm)).setCell ⟨wy.heap.size, 3, none⟩ (.int .i64 xa.mn)).setCell ⟨wy.heap.size, 4, none⟩ (.int .i64 xa.mx)).setCell ⟨wy.heap.size, 5, none⟩ (.int .i64 xa.fi)).setCell ⟨wy.heap.size, 6, none⟩ (.int .i64 xa.la)) = wz at *
             generalize wy.heap.size = g8 at *)
          | (have HT : Hid (Holds (wt.alloc (.cells #[.int .i64 xa.fr, .int .i64 xa.cn, .int .i64 xa.sm, .int .i64 xa.mn, .int .i64 xa.mx, .int .i64 xa.fi, .int .i64 xa.la] 70)) wt.heap.size xa ∧ (wt.alloc (.cells #[.int .i64 xa.fr, .int .i64 xa.cn, .int .i64 xa.sm, .int .i64 xa.mn, .int .i64 xa.mx, .int .i64 xa.fi, .int .i64 xa.la] 70)).ownsRow w.heap.size 70 7 u6 out.length (aggV out) ∧ Below w.heap.size w (wt.alloc (.cells #[.int .i64 xa.fr, .int .i64 xa.cn, .int .i64 xa.sm, .int .i64 xa.mn, .int .i64 xa.mx, .int .i64 xa.fi, .int .i64 xa.la] 70))) := Lib.hid
               ⟨Holds.new wt xa, own7_below HI3.out.own (past_alloc hB _), past_alloc (past HI3.out.below hB) _⟩
             clear hbt hB ci HSK HMA MA
             generalize (wt.alloc (.cells #[.int .i64 xa.fr, .int .i64 xa.cn, .int .i64 xa.sm, .int .i64 xa.mn, .int .i64 xa.mx, .int .i64 xa.fi, .int .i64 xa.la] 70)) = wz at *
             generalize wt.heap.size = g8 at *)
        all_goals
          by_cases hz : xc = 0
          case neg =>
            have HN : Hid (R = ([], xc)) := Lib.hid (by rw [HI3.out.says, HSAY.out, if_neg hz])
            have hz' : (xc == 0) = false := by simpa using hz
            go_wp2
            (try rw [Exit.noGoto_ret])
            go_ret2
            refine ⟨none, 0, ?_, HT.out.2.2, ?_⟩
            · rw [HN.out]; rfl
            · rw [HN.out]; exact rowOf_nil _
          have HN : Hid (R = rawOn k (out ++ [xa]) (l.drop m)) := Lib.hid (by rw [HI3.out.says, HSAY.out, if_pos hz])
          subst hz
          obtain ⟨d0, d1, d2, d3, d4, d5, d6⟩ := HT.out.1
          obtain ⟨w9, hw9⟩ : ∃ w9, w9 = wz.alloc (.cells #[.int .i64 xa.fr, .int .i64 xa.cn, .int .i64 xa.sm, .int .i64 xa.mn, .int .i64 xa.mx, .int .i64 xa.fi, .int .i64 xa.la] 70) := ⟨_, rfl⟩
          have hB9 : Below wz.heap.size wz w9 := by rw [hw9]; exact past_alloc (Below.refl _ _) _
          have W9 := Lib.hid hw9
          have O9 : Hid (w9.ownsRow w.heap.size 70 7 u6 out.length (aggV out)) := Lib.hid (own7_below HT.out.2.1 hB9)
          have N9 : Hid (∀ j u, xa.cells[j]? = some u → w9.cell? ((⟨wz.heap.size, 0, none⟩ : Addr).add j) = some u) := Lib.hid (Holds.news (by rw [hw9]; exact Holds.new wz xa))
          have Z9 : Hid (w.heap.size ≤ w9.heap.size) := Lib.hid (Nat.le_trans HT.out.2.2.size hB9.size)
          have BB : Hid (Below w.heap.size w w9) := Lib.hid (past HT.out.2.2 hB9)
          clear hw9 hB9
          go_upto_region 12 with fail
          obtain ⟨i0', hi', hz0, hz1, hz2⟩ := info_parts Tryd.info70
          go_wp2_with (at_builtin; rw [← W9.out]; refine wpList_append_lies _ rfl _ _ 23 rfl w.heap.size 70 i0' (.agg #[.int .i64 0, .int .i64 0, .int .i64 0, .int .i64 0, .int .i64 0, .int .i64 0, .int .i64 0]) 7 56 Tryd.underlying23 hi' hz0 hz1 hz2 rfl (by decide) u6 out.length (aggV out) rfl O9.out ⟨wz.heap.size, 0, none⟩ 1 1 xa.cells rfl rfl N9.out (cells_one xa) (by decide) (by unfold maxLen; omega) (by omega) Z9.out _ rfl ?_)
          intro ga ca' wa hown hgrow hat hltg
          have HNEW : Hid (RRawInv w wa k m l (out ++ [xa]) (.slice (some ⟨ga, 0, none⟩) (out.length + 1) ca') R) := Lib.hid (by
            refine ⟨HN.out, ?_, ?_, ?_, BB.out.grown hgrow Z9.out (fun k h => (O9.out.lt k h).1)⟩
            · have := HI3.out.room
              rw [List.length_append]
              show out.length + 1 ≤ m
              omega
            · rw [aggV_append, aggV_one, List.length_append]
              exact hown
            · intro x hx
              rw [List.mem_append, List.mem_singleton] at hx
              rcases hx with hx | rfl
              · exact HI3.out.ok x hx
              · exact HXOK.out)
          clear hown hgrow hat hltg d0 d1 d2 d3 d4 d5 d6 W9 O9 N9 Z9 BB HT
          go_wp2
          go_roundw
          case rel => exact ⟨out ++ [xa], m, by omega, rfl, HNEW⟩
          case measure => simp [intOf]; omega
    · obtain ⟨A, ca, hv, hrow⟩ := rowOf_own HI.out.own HI.out.ok
      have HN : Hid (R = (out, 0)) := Lib.hid (by rw [HI.out.says, List.drop_eq_nil_of_le (by rw [HL.out]; omega), rawOn])
      have HV := Lib.hid hv
      have HROW := Lib.hid hrow
      clear hv hrow
      go_wp2
      (try rw [Exit.noGoto_ret])
      go_ret2
      refine ⟨A, ca, ?_, HI.out.below, ?_⟩
      · rw [HN.out, HV.out]; rfl
      · rw [HN.out]; exact HROW.out
end Go.Proofs.YtfojciolhokejaaDoor
