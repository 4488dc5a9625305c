/-
  The document's own answer for Down: what it returns of every row of at most a thousand windows; nothing that was there is written.
-/
import Derived.Test.YtoccmklbjabaaaaDoorRRawAny
import Derived.Test.YtoccmklbjabaaaaDoorRAlign
namespace Go.Proofs.YtoccmklbjabaaaaDoor
open Go.RowKit
attribute [local go_sem ↓] Go.wp_at_zero Go.wp_at_succ
set_option linter.unusedVariables false

theorem join_at {a x : Ag} {k : Int} (hk : coarse k) (hx : x.may) : join a (x.at_ k) = join a x := by
  unfold join
  have h : (a.may ∧ (x.at_ k).may ∧ a.cn + (x.at_ k).cn ≤ 1099511627776) ↔ (a.may ∧ x.may ∧ a.cn + x.cn ≤ 1099511627776) := ⟨fun h => ⟨h.1, hx, h.2.2⟩, fun h => ⟨h.1, at_may hk hx, h.2.2⟩⟩
  by_cases h1 : a.may ∧ x.may ∧ a.cn + x.cn ≤ 1099511627776
  · rw [if_pos (h.2 h1), if_pos h1]
    rfl
  · rw [if_neg (fun h2 => h1 (h.1 h2)), if_neg h1]
theorem downOn_snoc {k : Int} {out : List Ag} {a x : Ag} {r : List Ag} {y : Ag × Int} (hk : coarse k) (hx : x.may) (ha : a.fr = flr x.fr k) (hy : join a x = y) :
    downOn k (out ++ [a]) (x :: r) = if y.2 = 0 then downOn k (out ++ [y.1]) r else ([], y.2) := by
  have e : agAt (out ++ [a]) ((out ++ [a]).length - 1) = a := agAt_snoc out a
  rw [downOn_join (x := y) ⟨by simp, by rw [e]; exact ha⟩ (by rw [e, join_at hk hx]; exact hy)]
  have e2 : (out ++ [a]).set ((out ++ [a]).length - 1) y.1 = out ++ [y.1] := by simp
  rw [e2]

/-- What the document's Down holds in its loops. -/
structure RDownInv (w wr : World) (k : Int) (i : Nat) (l out : List Ag) (v : Value) (R : List Ag × Int) : Prop where
  says : R = downOn k out (l.drop i)
  room : out.length ≤ i
  fresh : i < l.length → ¬ (0 < out.length ∧ (agAt out (out.length - 1)).fr = flr (agAt l i).fr k)
  own : wr.ownsRow w.heap.size 43 7 v out.length (aggV out)
  ok : ∀ a ∈ out, a.ok
  below : Below w.heap.size w wr
structure RDownIn (w wx : World) (k : Int) (i m : Nat) (l out : List Ag) (v : Value) (R : List Ag × Int) (g8 : Nat) (a : Ag) (F : Int) : Prop where
  says : R = downOn k (out ++ [a]) (l.drop m)
  fr : a.fr = F
  aok : a.ok
  holds : Holds wx g8 a
  free : Free wx g8
  glt : w.heap.size ≤ g8
  gne : v.ownBlock ≠ some g8
  room : out.length ≤ i
  own : wx.ownsRow w.heap.size 43 7 v out.length (aggV out)
  ok : ∀ a ∈ out, a.ok
  below : Below w.heap.size w wx
theorem RDownIn.past {w wx wy : World} {k : Int} {i m : Nat} {l out : List Ag} {v : Value} {R : List Ag × Int} {g8 : Nat} {a : Ag} {F : Int} (h : RDownIn w wx k i m l out v R g8 a F) (hb : Below wx.heap.size wx wy) : RDownIn w wy k i m l out v R g8 a F :=
  ⟨h.says, h.fr, h.aok, h.holds.below hb, h.free.below h.holds.lt hb, h.glt, h.gne, h.room, own7_below h.own hb, h.ok, Go.Proofs.YtoccmklbjabaaaaDoor.past h.below hb⟩
theorem RDownIn.set {w wx : World} {k : Int} {i m : Nat} {l out : List Ag} {v : Value} {R : List Ag × Int} {g8 : Nat} {a : Ag} {F : Int} (h : RDownIn w wx k i m l out v R g8 a F) (j : Ag) (hs : R = downOn k (out ++ [j]) (l.drop (m + 1))) (hf : j.fr = F) (hj : j.ok) :
    RDownIn w (((((((wx.setCell ⟨g8, 0, none⟩ (.int .i64 j.fr)).setCell ⟨g8, 1, none⟩ (.int .i64 j.cn)).setCell ⟨g8, 2, none⟩ (.int .i64 j.sm)).setCell ⟨g8, 3, none⟩ (.int .i64 j.mn)).setCell ⟨g8, 4, none⟩ (.int .i64 j.mx)).setCell ⟨g8, 5, none⟩ (.int .i64 j.fi)).setCell ⟨g8, 6, none⟩ (.int .i64 j.la)) k i (m + 1) l out v R g8 j F :=
  ⟨hs, hf, hj, holds_set h.holds, free_set h.free _ _ _ _ _ _ _, h.glt, h.gne, h.room,
    ownsRow_setCell_other (ownsRow_setCell_other (ownsRow_setCell_other (ownsRow_setCell_other (ownsRow_setCell_other (ownsRow_setCell_other (ownsRow_setCell_other h.own h.gne _) h.gne _) h.gne _) h.gne _) h.gne _) h.gne _) h.gne _, h.ok, below_set h.below h.glt _ _ _ _ _ _ _⟩

set_option maxRecDepth 100000 in
set_option maxHeartbeats 4000000 in
theorem rdown_in (b off n cap : Nat) (l : List Ag) (k : Int) (w : World) (hl : l.length = n) (h0 : 0 < n) (hS : Aggs w (some ⟨b, off, none⟩) l) (hc : n ≤ cap) (hm : cap ≤ maxLen) (hk : coarse k) (hr : Align l (k - 1)) (hn : n ≤ 1000) :
    Calls Tryd.prog 16 #[.slice (some ⟨b, off, none⟩) n cap, .int .i64 k] w (Gives w (downOn k [] l)) := by
  have hk64 : In64 k := by unfold coarse at hk; unfold In64; omega
  have hsub : IntKind.i64.wrap (k - 1) = k - 1 := by unfold coarse at hk; rw [IntKind.wrap_i64]; omega
  have m1 := raligned_any (w := w) (k - 1) hl hS hc hm
  rw [decide_eq_true hr] at m1
  obtain ⟨k0, hk0⟩ : ∃ k0, k - 1 = k0 := ⟨_, rfl⟩
  replace hsub : IntKind.i64.wrap (k - 1) = k0 := hsub.trans hk0
  have hk2 : 2 ≤ k := by have := hr.1; unfold coarse at this; omega
  rw [hk0] at m1
  have M1 := Lib.hid m1
  obtain ⟨R, hR⟩ : ∃ R, downOn k [] l = R := ⟨_, rfl⟩
  rw [hR]
  unfold Gives
  have HSTART : Hid (∀ wr, Below w.heap.size w wr → RDownInv w wr k 0 l [] (.slice none 0 0) R) := Lib.hid (fun wr hb => ⟨hR.symm, by simp, fun _ h => absurd h.1 (by simp), World.ownsRow_nil _ _ _ _, by simp, hb⟩)
  have HCELL : Hid (∀ j, j < n → ∀ w', Below w.heap.size w w' → HoldsAt w' b (off + j * 7) (agAt l j)) := Lib.hid (fun j hj w' hb => by
    obtain ⟨b', o', e, hcc⟩ := (hS.below hb).2 (by omega)
    injection e with e
    injection e with e1 e2
    subst e1 e2
    exact hcc j (by omega))
  have HOKS : Hid (∀ j, j < n → (agAt l j).ok ∧ (agAt l j).may) := Lib.hid (fun j hj => ⟨hS.1 _ (agg_mem (by omega)), (hr.2 j (by omega)).1⟩)
  have HL := Lib.hid hl
  have HK := Lib.hid hk
  have HK64 := Lib.hid hk64
  unfold maxLen at hm
  unfold coarse at hk
  have k2' : ¬ k < 2 := by omega
  have k3' : ¬ 3 < k := by omega
  have h0i : (0 : Int) < (n : Int) := by omega
  clear m1 hR hS hr hl hk64 hk hk0
  go_enter Tryd.func16, Tryd.ntmps16
  go_wp2_with fail
  refine M1.out.mono ?_
  rintro e w2 ⟨rfl, hb2⟩
  have HB2 := Lib.hid hb2
  clear hb2 hsub
  go_wp2
  go_loopw [6, 7] (fun so si wr => ∃ (out : List Ag) (i : Nat), i ≤ n ∧ si = .int .i64 (i : Int) ∧ Hid (RDownInv w wr k i l out so R)) (fun _ si _ => n - (intOf si).toNat)
  case atStart => exact ⟨[], 0, by omega, rfl, Lib.hid (HSTART.out _ HB2.out)⟩
  case round =>
    obtain ⟨out, i, hi, rfl, HI⟩ := hrel
    by_cases hlt : i < n
    · have i1 : (i : Int) < (n : Int) := by omega
      have i0 : (0 : Int) ≤ (i : Int) := by omega
      obtain ⟨c0, c1, c2, c3, c4, c5, c6⟩ := HCELL.out i hlt wr HI.out.below
      have hok := HOKS.out i hlt
      have hsay := HI.out.says
      rw [agg_drop (by rw [HL.out]; exact hlt), downOn_new (HI.out.fresh (by rw [HL.out]; exact hlt))] at hsay
      generalize agAt l i = a0 at c0 c1 c2 c3 c4 c5 c6 hok hsay
      have m3 := fun w' => rfloor_any a0.fr k w' hok.1.1 HK64.out
      have hat : a0.at_ k = ⟨flr a0.fr k, a0.cn, a0.sm, a0.mn, a0.mx, a0.fi, a0.la⟩ := rfl
      have haok := at_ok (k := k) hok.1
      generalize hF : flr a0.fr k = F at m3 hat
      have M3 := Lib.hid m3
      have HH3 : Hid (Holds (wr.alloc (.cells #[.int .i64 a0.fr, .int .i64 a0.cn, .int .i64 a0.sm, .int .i64 a0.mn, .int .i64 a0.mx, .int .i64 a0.fi, .int .i64 a0.la] 43)) wr.heap.size a0 ∧ Free (wr.alloc (.cells #[.int .i64 a0.fr, .int .i64 a0.cn, .int .i64 a0.sm, .int .i64 a0.mn, .int .i64 a0.mx, .int .i64 a0.fi, .int .i64 a0.la] 43)) wr.heap.size ∧ (wr.alloc (.cells #[.int .i64 a0.fr, .int .i64 a0.cn, .int .i64 a0.sm, .int .i64 a0.mn, .int .i64 a0.mx, .int .i64 a0.fi, .int .i64 a0.la] 43)).ownsRow w.heap.size 43 7 u6 out.length (aggV out) ∧ w.heap.size ≤ wr.heap.size ∧ (u6.ownBlock ≠ some wr.heap.size) ∧ Below w.heap.size w (wr.alloc (.cells #[.int .i64 a0.fr, .int .i64 a0.cn, .int .i64 a0.sm, .int .i64 a0.mn, .int .i64 a0.mx, .int .i64 a0.fi, .int .i64 a0.la] 43))) := Lib.hid (by
        refine ⟨Holds.new wr a0, ?_, own7_below HI.out.own (past_alloc (Below.refl _ _) _), HI.out.below.size, fun e => ?_, past_alloc HI.out.below _⟩
        · unfold Free
          simp
        · have := (HI.out.own.lt _ e).2
          omega)
      go_wp2_with fail
      refine (M3.out _).mono ?_
      rintro e w3 ⟨rfl, rfl⟩
      clear c0 c1 c2 c3 c4 c5 c6 M3 m3
      generalize wr.alloc (.cells #[.int .i64 a0.fr, .int .i64 a0.cn, .int .i64 a0.sm, .int .i64 a0.mn, .int .i64 a0.mx, .int .i64 a0.fi, .int .i64 a0.la] 43) = ws at *
      generalize wr.heap.size = g8 at *
      have z0 := HH3.out.1.1
      have f0 := HH3.out.2.1.1
      have hi1 : IntKind.i64.wrap ((i : Int) + 1) = (i : Int) + 1 := by rw [IntKind.wrap_i64]; omega
      go_upto_region 8 with fail
      clear z0 f0
      have HIN : Hid (RDownIn w (ws.setCell ⟨g8, 0, none⟩ (.int .i64 F)) k i (i + 1) l out u6 R g8 (a0.at_ k) F) := Lib.hid (by
        obtain ⟨⟨h0, h1, h2, h3, h4, h5, h6⟩, z2, z3, z4, z5, z6⟩ := HH3.out
        refine ⟨hsay, by rw [hat], haok, ?_, ?_, z4, z5, HI.out.room, ownsRow_setCell_other z3 z5 _, HI.out.ok, z6.setCell z4 _⟩
        · rw [hat]
          unfold Holds
          simp [go_sem, *]
        · unfold Free at z2 ⊢
          simpa using z2)
      clear HH3 hsay hat haok hok hF
      generalize ws.setCell ⟨g8, 0, none⟩ (.int .i64 F) = wz at *
      generalize a0.at_ k = a1 at HIN
      go_wp2
      go_loopw [9] (fun sn wx => ∃ (m : Nat) (a : Ag), i < m ∧ m ≤ n ∧ sn = .int .i64 (m : Int) ∧ Hid (RDownIn w wx k i m l out u6 R g8 a F)) (fun sn _ => n - (intOf sn).toNat)
      case atStart => exact ⟨i + 1, a1, by omega, by omega, by go_num, HIN⟩
      case round =>
        obtain ⟨m, a, him, hmn, rfl, HI2⟩ := hrel
        have a0' := HI2.out.holds.1
        rw [HI2.out.fr] at a0'
        have j4 : (0 : Int) ≤ (m : Int) := by omega
        by_cases hgo : m < n ∧ flr (agAt l m).fr k = F
        · obtain ⟨hm1, hm2⟩ := hgo
          have q1 : (m : Int) < (n : Int) := by omega
          have hxx := HOKS.out m hm1
          have hcx := HCELL.out m hm1
          have hdr := agg_drop (l := l) (j := m) (by rw [HL.out]; exact hm1)
          generalize agAt l m = x at hxx hcx hdr hm2
          have MM := Lib.hid (fun w' => rfloor_any x.fr k w' hxx.1.1 HK64.out)
          rw [hm2] at MM
          have hsay := HI2.out.says
          have hjk := join_ok HI2.out.aok hxx.1
          have hj0 := join_zero (a := a) (b := x)
          have m6 := fun w' => rjoin_any a x w' HI2.out.aok hxx.1
          rw [hdr, downOn_snoc HK.out hxx.2 (by rw [HI2.out.fr, hm2]) rfl] at hsay
          generalize join a x = y at hsay hjk hj0 m6
          obtain ⟨ja, jc⟩ := y
          simp only at hsay hjk hj0 m6
          unfold Ag.val at m6
          have M6 := Lib.hid m6
          have HJK := Lib.hid hjk
          have HS2 := Lib.hid hsay
          have HJF : Hid (jc = 0 → ja.fr = F) := Lib.hid (fun h => by
            have h5 := (hj0 h).2.2.2.2
            rw [h5]
            exact HI2.out.fr)
          have HCX := Lib.hid hcx
          clear hxx hcx hdr hm2 hsay hjk hj0 m6
          have cm := (HCX.out wr HI2.out.below).1
          go_upto_region 9 with fail
          go_quiet ((go_at_call 21; exact quiet_same (MM.out _)))
          have HI3 := Lib.hid (HI2.out.past (belowN wr nq))
          clear a0' cm HI2
          generalize wr.drewN nq = wy at *
          obtain ⟨d0, d1, d2, d3, d4, d5, d6⟩ := HI3.out.holds
          obtain ⟨e0, e1, e2, e3, e4, e5, e6⟩ := HCX.out wy HI3.out.below
          have HSK : Hid (∀ w', Below wy.heap.size wy w' → w'.cell? ⟨g8, 0, none⟩ = some (.int .i64 a.fr) ∧ w'.cell? ⟨g8, 1, none⟩ = some (.int .i64 a.cn) ∧ w'.cell? ⟨g8, 2, none⟩ = some (.int .i64 a.sm) ∧ w'.cell? ⟨g8, 3, none⟩ = some (.int .i64 a.mn) ∧ w'.cell? ⟨g8, 4, none⟩ = some (.int .i64 a.mx) ∧ w'.cell? ⟨g8, 5, none⟩ = some (.int .i64 a.fi) ∧ w'.cell? ⟨g8, 6, none⟩ = some (.int .i64 a.la) ∧ w'.cell? ⟨b, off + m * 7, none⟩ = some (.int .i64 x.fr) ∧ w'.cell? ⟨b, off + m * 7 + 1, none⟩ = some (.int .i64 x.cn) ∧ w'.cell? ⟨b, off + m * 7 + 2, none⟩ = some (.int .i64 x.sm) ∧ w'.cell? ⟨b, off + m * 7 + 3, none⟩ = some (.int .i64 x.mn) ∧ w'.cell? ⟨b, off + m * 7 + 4, none⟩ = some (.int .i64 x.mx) ∧ w'.cell? ⟨b, off + m * 7 + 5, none⟩ = some (.int .i64 x.fi) ∧ w'.cell? ⟨b, off + m * 7 + 6, none⟩ = some (.int .i64 x.la)) := Lib.hid (fun w' hb => by
            obtain ⟨d0, d1, d2, d3, d4, d5, d6⟩ := HI3.out.holds.below hb
            exact ⟨d0, d1, d2, d3, d4, d5, d6, HCX.out w' (past HI3.out.below hb)⟩)
          go_upto_region 10 with fail
          go_region_held3 (fun w' => w'.cell? ⟨g8, 0, none⟩ = some (.int .i64 a.fr) ∧ w'.cell? ⟨g8, 1, none⟩ = some (.int .i64 a.cn) ∧ w'.cell? ⟨g8, 2, none⟩ = some (.int .i64 a.sm) ∧ w'.cell? ⟨g8, 3, none⟩ = some (.int .i64 a.mn) ∧ w'.cell? ⟨g8, 4, none⟩ = some (.int .i64 a.mx) ∧ w'.cell? ⟨g8, 5, none⟩ = some (.int .i64 a.fi) ∧ w'.cell? ⟨g8, 6, none⟩ = some (.int .i64 a.la) ∧ w'.cell? ⟨b, off + m * 7, none⟩ = some (.int .i64 x.fr) ∧ w'.cell? ⟨b, off + m * 7 + 1, none⟩ = some (.int .i64 x.cn) ∧ w'.cell? ⟨b, off + m * 7 + 2, none⟩ = some (.int .i64 x.sm) ∧ w'.cell? ⟨b, off + m * 7 + 3, none⟩ = some (.int .i64 x.mn) ∧ w'.cell? ⟨b, off + m * 7 + 4, none⟩ = some (.int .i64 x.mx) ∧ w'.cell? ⟨b, off + m * 7 + 5, none⟩ = some (.int .i64 x.fi) ∧ w'.cell? ⟨b, off + m * 7 + 6, none⟩ = some (.int .i64 x.la))
            ((refine HSK.out _ ?_
              first
                | with_reducible exact hB
                | with_reducible exact past_alloc hB _
                | with_reducible exact below_set hB (Nat.le_refl _) _ _ _ _ _ _ _
                | exact belowN wy 1
                | exact past_alloc (belowN wy 1) _
                | exact past (past_alloc (Below.refl _ _) _) (belowN _ 1)))
            (first
              | (go_at_call 31; refine (M6.out _).mono ?_; rintro e wt ⟨rfl, hbt⟩
                 first
                   | (have hB : Below wy.heap.size wy wt := (belowN wy 1).trans hbt)
                   | (have hbt' := (belowN (wy.alloc (.cells #[.int .i64 0, .int .i64 0, .int .i64 0, .int .i64 0, .int .i64 0, .int .i64 0, .int .i64 0] 43)) 1).trans hbt
                      have hB : Below wy.heap.size wy wt := past (past_alloc (Below.refl _ _) _) hbt'
                      have hz8 : Holds wt wy.heap.size Ag.zero := (zero_new wy).1.below hbt'
                      have hf8 : Free wt wy.heap.size := (zero_new wy).2.1.below (zero_new wy).2.2 hbt'
                      unfold Ag.zero at hz8
                      obtain ⟨z0, z1, z2, z3, z4, z5, z6⟩ := hz8
                      obtain ⟨f0, f1, f2, f3, f4, f5, f6⟩ := hf8)))
          all_goals first
            | (have hk8 := z0
               have HT : Hid (RDownIn w (((((((wt.setCell ⟨wy.heap.size, 0, none⟩ (.int .i64 ja.fr)).setCell ⟨wy.heap.size, 1, none⟩ (.int .i64 ja.cn)).setCell ⟨wy.heap.size, 2, none⟩ (.int .i64 ja.sm)).setCell ⟨wy.heap.size, 3, none⟩ (.int .i64 ja.mn)).setCell ⟨wy.heap.size, 4, none⟩ (.int .i64 ja.mx)).setCell ⟨wy.heap.size, 5, none⟩ (.int .i64 ja.fi)).setCell ⟨wy.heap.size, 6, none⟩ (.int .i64 ja.la)) k i m l out u6 R g8 a F ∧ Holds (((((((wt.setCell ⟨wy.heap.size, 0, none⟩ (.int .i64 ja.fr)).setCell ⟨wy.heap.size, 1, none⟩ (.int .i64 ja.cn)).setCell ⟨wy.heap.size, 2, none⟩ (.int .i64 ja.sm)).setCell ⟨wy.heap.size, 3, none⟩ (.int .i64 ja.mn)).setCell ⟨wy.heap.size, 4, none⟩ (.int .i64 ja.mx)).setCell ⟨wy.heap.size, 5, none⟩ (.int .i64 ja.fi)).setCell ⟨wy.heap.size, 6, none⟩ (.int .i64 ja.la)) wy.heap.size ja) := Lib.hid ⟨HI3.out.past (below_set hB (Nat.le_refl _) _ _ _ _ _ _ _), holds_set (a0 := Ag.zero) ⟨z0, z1, z2, z3, z4, z5, z6⟩⟩
               clear hk8 z0 z1 z2 z3 z4 z5 z6 f0 f1 f2 f3 f4 f5 f6 hbt hbt' hB d0 d1 d2 d3 d4 d5 d6 e0 e1 e2 e3 e4 e5 e6 HSK HI3 M6
               generalize (((((((wt.setCell ⟨wy.heap.size, 0, none⟩ (.int .i64 ja.fr)).setCell ⟨wy.heap.size, 1, none⟩ (.int .i64 ja.cn)).setCell ⟨wy.heap.size, 2, none⟩ (.int .i64 ja.sm)).setCell ⟨wy.heap.size, 3, none⟩ (.int .i64 ja.mn)).setCell ⟨wy.heap.size, 4, none⟩ (.int .i64 ja.mx)).setCell ⟨wy.heap.size, 5, none⟩ (.int .i64 ja.fi)).setCell ⟨wy.heap.size, 6, none⟩ (.int .i64 ja.la)) = wq at *
               generalize wy.heap.size = g10 at *)
            | (have HT : Hid (RDownIn w (wt.alloc (.cells #[.int .i64 ja.fr, .int .i64 ja.cn, .int .i64 ja.sm, .int .i64 ja.mn, .int .i64 ja.mx, .int .i64 ja.fi, .int .i64 ja.la] 43)) k i m l out u6 R g8 a F ∧ Holds (wt.alloc (.cells #[.int .i64 ja.fr, .int .i64 ja.cn, .int .i64 ja.sm, .int .i64 ja.mn, .int .i64 ja.mx, .int .i64 ja.fi, .int .i64 ja.la] 43)) wt.heap.size ja) := Lib.hid ⟨HI3.out.past (past_alloc hB _), Holds.new wt ja⟩
               clear hbt hB d0 d1 d2 d3 d4 d5 d6 e0 e1 e2 e3 e4 e5 e6 HSK HI3 M6
               generalize (wt.alloc (.cells #[.int .i64 ja.fr, .int .i64 ja.cn, .int .i64 ja.sm, .int .i64 ja.mn, .int .i64 ja.mx, .int .i64 ja.fi, .int .i64 ja.la] 43)) = wq at *
               generalize wt.heap.size = g10 at *)
          all_goals
            by_cases hz : jc = 0
            case neg =>
              have HN : Hid (R = ([], jc)) := Lib.hid (by rw [HS2.out, if_neg hz])
              have hz' : (jc == 0) = false := by simpa using hz
              go_wp2
              (try rw [Exit.noGoto_ret])
              go_ret2
              refine ⟨none, 0, ?_, HT.out.1.below, ?_⟩
              · rw [HN.out]; rfl
              · rw [HN.out]; exact rowOf_nil _
            have HNEW := Lib.hid (HT.out.1.set ja (HS2.out.trans (if_pos hz)) (HJF.out hz) HJK.out)
            subst hz
            obtain ⟨d0, d1, d2, d3, d4, d5, d6⟩ := HT.out.2
            obtain ⟨e0, e1, e2, e3, e4, e5, e6⟩ := HT.out.1.holds
            obtain ⟨f0, f1, f2, f3, f4, f5, f6⟩ := HT.out.1.free
            clear HT
            go_wp2
            go_roundw
            case rel => exact ⟨m + 1, ja, by omega, by omega, by go_num, HNEW⟩
            case measure => simp [intOf]; omega
        have HFR : Hid (m < l.length → ¬ (0 < (out ++ [a]).length ∧ (agAt (out ++ [a]) ((out ++ [a]).length - 1)).fr = flr (agAt l m).fr k)) := Lib.hid (fun h1 h2 => by
          rw [HL.out] at h1
          rw [agAt_snoc, HI2.out.fr] at h2
          exact hgo ⟨h1, h2.2.symm⟩)
        have hrm : out.length + 1 ≤ 1000 := by have := HI2.out.room; omega
        by_cases hm1 : m < n
        case' pos =>
          have hne : (flr (agAt l m).fr k == F) = false := by simpa using fun e => hgo ⟨hm1, e⟩
          have hxx := HOKS.out m hm1
          have hcx := (HCELL.out m hm1 wr HI2.out.below).1
          generalize agAt l m = x at hxx hcx hne
          have MM := Lib.hid (fun w' => rfloor_any x.fr k w' hxx.1.1 HK64.out)
          generalize flr x.fr k = Fm at MM hne
          have q1 : (m : Int) < (n : Int) := by omega
          clear hgo hxx
          go_upto_region 9 with fail
          go_quiet ((go_at_call 21; exact quiet_same (MM.out _)))
          clear hcx
        case' neg =>
          have q1 : ¬ (m : Int) < (n : Int) := by omega
          have q2 : decide ((m : Int) < (n : Int)) = false := decide_eq_false q1
          clear hgo
          go_upto_region 9 with fail
          go_quiet (fail)
        all_goals
          have HI3 := Lib.hid (HI2.out.past (belowN wr nq))
          clear a0'
          generalize wr.drewN nq = wy at *
          obtain ⟨d0, d1, d2, d3, d4, d5, d6⟩ := HI3.out.holds
          obtain ⟨w9, hw9⟩ : ∃ w9, w9 = wy.alloc (.cells #[.int .i64 a.fr, .int .i64 a.cn, .int .i64 a.sm, .int .i64 a.mn, .int .i64 a.mx, .int .i64 a.fi, .int .i64 a.la] 43) := ⟨_, rfl⟩
          have hB9 : Below wy.heap.size wy w9 := by rw [hw9]; exact past_alloc (Below.refl _ _) _
          have W9 := Lib.hid hw9
          have O9 : Hid (w9.ownsRow w.heap.size 43 7 u6 out.length (aggV out)) := Lib.hid (own7_below HI3.out.own hB9)
          have N9 : Hid (∀ j u, a.cells[j]? = some u → w9.cell? ((⟨wy.heap.size, 0, none⟩ : Addr).add j) = some u) := Lib.hid (Holds.news (by rw [hw9]; exact Holds.new wy a))
          have Z9 : Hid (w.heap.size ≤ w9.heap.size) := Lib.hid (Nat.le_trans HI3.out.below.size hB9.size)
          have BB : Hid (Below w.heap.size w w9) := Lib.hid (past HI3.out.below hB9)
          clear hw9 hB9
          go_upto_region 15 with fail
          obtain ⟨i0', hi', hz0, hz1, hz2⟩ := info_parts Tryd.info43
          go_wp2_with (at_builtin; rw [← W9.out]; refine wpList_append_lies _ rfl _ _ 29 rfl w.heap.size 43 i0' (.agg #[.int .i64 0, .int .i64 0, .int .i64 0, .int .i64 0, .int .i64 0, .int .i64 0, .int .i64 0]) 7 56 Tryd.underlying29 hi' hz0 hz1 hz2 rfl (by decide) u6 out.length (aggV out) rfl O9.out ⟨wy.heap.size, 0, none⟩ 1 1 a.cells rfl rfl N9.out (cells_one a) (by decide) (by unfold maxLen; omega) (by omega) Z9.out _ rfl ?_)
          intro ga ca' wa hown hgrow hat hltg
          have HNEW : Hid (RDownInv w wa k m l (out ++ [a]) (.slice (some ⟨ga, 0, none⟩) (out.length + 1) ca') R) := Lib.hid (by
            refine ⟨HI3.out.says, ?_, HFR.out, ?_, ?_, BB.out.grown hgrow Z9.out (fun k h => (O9.out.lt k h).1)⟩
            · have := HI3.out.room
              rw [List.length_append]
              show out.length + 1 ≤ m
              omega
            · rw [aggV_append, aggV_one, List.length_append]
              exact hown
            · intro x hx
              rw [List.mem_append, List.mem_singleton] at hx
              rcases hx with hx | rfl
              · exact HI3.out.ok x hx
              · exact HI3.out.aok)
          clear hown hgrow hat hltg d0 d1 d2 d3 d4 d5 d6 W9 O9 N9 Z9 BB
          go_wp2
          go_roundw
          case rel => exact ⟨out ++ [a], m, by omega, rfl, HNEW⟩
          case measure => simp [intOf]; omega
    · obtain ⟨A, ca, hv, hrow⟩ := rowOf_own HI.out.own HI.out.ok
      have HN : Hid (R = (out, 0)) := Lib.hid (by rw [HI.out.says, List.drop_eq_nil_of_le (by rw [HL.out]; omega), downOn])
      have HV := Lib.hid hv
      have HROW := Lib.hid hrow
      clear hv hrow
      go_wp2
      (try rw [Exit.noGoto_ret])
      go_ret2
      refine ⟨A, ca, ?_, HI.out.below, ?_⟩
      · rw [HN.out, HV.out]; rfl
      · rw [HN.out]; exact HROW.out
end Go.Proofs.YtoccmklbjabaaaaDoor
