/-
  The landed block's Get: what it returns of every row of bytes; nothing that was there is written.
-/
import Derived.Test.YtfojciolhokejaaDoorKGet
namespace Go.Proofs.YtfojciolhokejaaDoor
open Go.RowKit
attribute [local go_sem ↓] Go.wp_at_zero Go.wp_at_succ
set_option linter.unusedVariables false

set_option maxRecDepth 100000 in
set_option maxHeartbeats 4000000 in
theorem kget_any (A : Option Addr) (len cap : Nat) (bs : List Nat) (w : World) (hl : bs.length = len) (hB : Bytes w A bs) (hc : len ≤ cap) (hm : cap ≤ maxLen) :
    Calls Tryd.prog 11 #[.slice A len cap] w (GetPost w (getB bs)) := by
  obtain ⟨i0, hi0, hz0, hz1, hz2⟩ := info_parts Tryd.info48
  have HBY := Lib.hid hB.1
  have HM0 : Hid (KMid w ((w.alloc (.cells #[.slice A len cap, .int .i64 0, .bool false] 59)).alloc (.cells #[.int .i64 0, .int .i64 0] 48)) w.heap.size (w.heap.size + 1) A len cap bs 0 false (.slice none 0 0) [] 0 0) := Lib.hid (by
    have hB2 : Below w.heap.size w ((w.alloc (.cells #[.slice A len cap, .int .i64 0, .bool false] 59)).alloc (.cells #[.int .i64 0, .int .i64 0] 48)) := past_alloc (past_alloc (Below.refl _ _) _) _
    refine ⟨⟨?_, hB.below hB2, hl, hc, hm, fun hp ad e => ?_, Nat.le_refl _, Nat.zero_le _⟩, World.ownsRow_nil _ _ _ _, hB2, ?_, by omega, by omega, fun k e => by cases e⟩
    · constructor <;> simp
    · obtain ⟨ad', e', hcc⟩ := hB.2 hp
      rw [e] at e'
      injection e' with e'
      subst e'
      have := World.block_lt_of_cell? w _ (hcc 0 hp)
      have e3 : (ad.add 0).block = ad.block := by unfold Addr.add; split <;> rfl
      omega
    · constructor <;> simp)
  obtain ⟨N, p0, b0, e0⟩ : ∃ N p b, numR bs 0 false = (N, p, b) := ⟨_, _, _, rfl⟩
  have hN := (numR_le (bs := bs) (p := 0) (bad := false) hB.1 (Nat.zero_le _)).2
  rw [e0] at hN
  have MC : Hid (∀ B g w, RB w B g A len cap bs 0 false → Calls Tryd.prog 28 #[.pointer (some ⟨g, 0, none⟩), .int .u64 64] w fun e w' => e = .returned (.int .i64 (if 64 < N then 0 else N : Nat)) ∧ RB w' B g A len cap bs p0 (b0 || decide (64 < N)) ∧ w.grownBy w' (some g)) := Lib.hid (fun B g w h => kcount_any B g A len cap bs w h _ e0)
  have HR := Lib.hid (kAll_num e0)
  have HN0 := Lib.hid (fun h => numR_bad e0 h)
  have MN := Lib.hid (fun B g p bad w h => number_any B g A len cap bs p bad w h)
  have MD := Lib.hid (fun B g p bad w h => done_any B g A len cap bs p bad w h)
  have HGN := Lib.hid (fun h => getB_none hB.1 h)
  have HGO := Lib.hid (fun l p hp h => getB_of (l := l) (p := p) hB.1 hp h)
  generalize kAll bs = R at *
  generalize getB bs = G at *
  clear e0 hB hl
  go_enter Tryd.func11, Tryd.ntmps11
  go_wp2
  go_step3
  go_wp2
  go_step3
  go_wp2_with fail
  refine (MC.out _ _ _ HM0.out.pos).mono ?_
  rintro e w1 ⟨rfl, hr1, hg1⟩
  have HM1 := Lib.hid (HM0.out.num hr1 hg1)
  obtain ⟨n, hn⟩ : ∃ n, (if 64 < N then 0 else N) = n := ⟨_, rfl⟩
  have hn64 : n ≤ 64 := by rw [← hn]; split <;> omega
  rw [hn]
  obtain ⟨b1, hb1⟩ : ∃ b1, (b0 || decide (64 < N)) = b1 := ⟨_, rfl⟩
  rw [hb1] at HM1 HR
  have HST : Hid (KGInv w w1 w.heap.size (w.heap.size + 1) A len cap bs R n 0 0 p0 b1 (.slice none 0 0) [] 0 0) := Lib.hid (by
    refine ⟨HM1.out, fun _ h => by simp at h, rfl, by unfold In64; omega, by unfold In64; omega, fun _ => ⟨rfl, rfl⟩, fun e => ?_, fun e => ?_⟩
    · rw [HR.out, e]
      subst hb1
      simp only [Bool.or_eq_false_iff, decide_eq_false_iff_not] at e
      rw [if_neg e.2] at hn
      subst hn
      simp only [Bool.false_eq_true, if_false, kLeft]
      cases kFirst N (bs.drop p0) <;> rfl
    · rw [HR.out, e]
      refine ⟨rfl, ?_⟩
      subst hb1
      simp only [Bool.or_eq_true, decide_eq_true_eq] at e
      rw [← hn]
      split
      · rfl
      · rcases e with e | e
        · exact HN0.out e
        · omega)
  clear hr1 hg1 HM0 HM1 hn hb1 HR HN0 hN MC
  generalize hgR : w.heap.size = gR at *
  generalize hgS : gR + 1 = gS at *
  have HGR := Lib.hid hgR
  clear hgR hgS
  go_wp2
  go_loopw [5, 7, 12] (fun s5 s7 s12 wr => ∃ (i p : Nat) (st t v : Int) (bad : Bool) (out : List (Int × Int)), i ≤ n ∧ s7 = .int .i64 st ∧ s12 = .int .i64 (i : Int) ∧ Hid (KGInv w wr gR gS A len cap bs R n i st p bad s5 out t v)) (fun _ _ s12 _ => n - (intOf s12).toNat)
  case atStart => exact ⟨0, p0, 0, 0, 0, b1, [], by omega, rfl, rfl, HST⟩
  case round =>
    clear HST
    obtain ⟨i, p, st, t, v, bad, out, hi, rfl, rfl, HI⟩ := hrel
    by_cases hlt : i < n
    · have hbad : bad = false := by
        cases bad
        · rfl
        · have := (HI.out.wrong rfl).2
          omega
      subst hbad
      have i1 : (i : Int) < (n : Int) := by omega
      obtain ⟨a, q1, b1, e1⟩ : ∃ a q b, numR bs p false = (a, q, b) := ⟨_, _, _, rfl⟩
      obtain ⟨c, q2, b2, e2⟩ : ∃ a q b, numR bs q1 false = (a, q, b) := ⟨_, _, _, rfl⟩
      have hle := HI.out.mid.pos.le
      have l1 := numR_le (bad := false) HBY.out hle
      rw [e1] at l1
      have l2 := numR_le (bad := false) HBY.out l1.1
      rw [e2] at l2
      simp only at l1 l2
      have m1 := fun w h => MN.out (w.heap.size) gR p false w h
      have M1 : Hid (∀ B wx, RB wx B gR A len cap bs p false → Calls Tryd.prog 29 #[.pointer (some ⟨gR, 0, none⟩)] wx fun e w' => e = .returned (.int .u64 (a : Int)) ∧ RB w' B gR A len cap bs q1 b1 ∧ wx.grownBy w' (some gR)) := Lib.hid (fun B wx h => by
        have := MN.out B gR p false wx h
        unfold NumP at this
        rw [e1] at this
        exact this)
      have M2 : Hid (∀ B wx, RB wx B gR A len cap bs q1 b1 → Calls Tryd.prog 29 #[.pointer (some ⟨gR, 0, none⟩)] wx fun e w' => e = .returned (.int .u64 (c : Int)) ∧ RB w' B gR A len cap bs q2 (b1 || b2) ∧ wx.grownBy w' (some gR)) := Lib.hid (fun B wx h => by
        have := MN.out B gR q1 b1 wx h
        unfold NumP at this
        rw [e2] at this
        exact this)
      have MZ := Lib.hid (fun w => zag_any (c : Int) w (by omega) (by omega))
      have MZ0 := Lib.hid (fun w => zag_any (a : Int) w (by omega) (by omega))
      have hzr := zag_range (c : Int) (by omega) (by omega)
      have hza := zag_range (a : Int) (by omega) (by omega)
      have htv := HI.out.tv
      have hst := HI.out.step
      have HOL := Lib.hid HI.out.len_
      have hlo : out.length ≤ 64 := by have := HI.out.len_; omega
      obtain ⟨v', hv'⟩ : ∃ v', w64 (v + zag (c : Int)) = v' := ⟨_, rfl⟩
      have hwv : IntKind.i64.wrap (v + zag (c : Int)) = v' := by rw [IntKind.wrap_i64, ← hv']; rfl
      by_cases hi0 : i = 0
      case' pos =>
        obtain ⟨t', ht'⟩ : ∃ t', w64 (a : Int) = t' := ⟨_, rfl⟩
        have hwt : IntKind.i64.wrap (a : Int) = t' := by rw [IntKind.wrap_i64, ← ht']; rfl
        have HLEFT := Lib.hid (kg_next (M := kLeft n (i + 1) t' st v' (bs.drop q2)) (x := (t', v')) (b := (b1 || b2)) (HI.out.says rfl) (by
          have hz := HI.out.zero hi0
          have hv2 : v' = zag (c : Int) := by rw [← hv', hz.2, Int.zero_add]; exact w64_id hzr
          rw [hi0, hz.1, hv2, ← ht']
          exact kLeft_zero (by omega) e1 e2))
        have HT' : Hid (In64 t' ∧ In64 v' ∧ In64 st) := Lib.hid ⟨ht' ▸ w64_in _, hv' ▸ w64_in _, hst⟩
        have HM := Lib.hid HI.out.mid
        have ieq : ((i : Int) == 0) = true := by simp; omega
        have hf0 := HI.out.mid.sv
        clear hv' ht' hst htv hza hi0 e1 e2 m1 hf0
        go_wp2_with fail
        refine (M1.out _ _ HM.out.pos).mono ?_
        rintro e w2 ⟨rfl, hr2, hg2⟩
        have HM2 := Lib.hid (HM.out.num hr2 hg2)
        obtain ⟨x0, x1, x2, x3⟩ := HM2.out.sv
        have HM3 := Lib.hid (HM2.out.setT t')
        clear hr2 hg2 HM
        go_upto_region 12 with fail
        clear x0 x1 x2 x3 hwt
        generalize w2.setCell ⟨gS, 0, none⟩ (.int .i64 t') = w3 at *
      case' neg =>
        have hpos : 0 < i := by omega
        obtain ⟨st', hst'⟩ : ∃ st', w64 (st + zag (a : Int)) = st' := ⟨_, rfl⟩
        have hws : IntKind.i64.wrap (st + zag (a : Int)) = st' := by rw [IntKind.wrap_i64, ← hst']; rfl
        obtain ⟨t', ht'⟩ : ∃ t', w64 (t + st') = t' := ⟨_, rfl⟩
        have hwt : IntKind.i64.wrap (t + st') = t' := by rw [IntKind.wrap_i64, ← ht']; rfl
        have HLEFT := Lib.hid (kg_next (M := kLeft n (i + 1) t' st' v' (bs.drop q2)) (x := (t', v')) (b := (b1 || b2)) (HI.out.says rfl) (by
          rw [← hv', ← ht', ← hst']
          exact kLeft_succ hpos hlt e1 e2))
        have HT' : Hid (In64 t' ∧ In64 v' ∧ In64 st') := Lib.hid ⟨ht' ▸ w64_in _, hv' ▸ w64_in _, hst' ▸ w64_in _⟩
        have HM := Lib.hid HI.out.mid
        have ieq : ((i : Int) == 0) = false := by simp; omega
        have hf0 := HI.out.mid.sv
        clear hv' ht' hst' hst htv hi0 e1 e2 m1 hf0
        generalize zag (a : Int) = Z0 at *
        go_wp2_with fail
        refine (M1.out _ _ HM.out.pos).mono ?_
        rintro e w2 ⟨rfl, hr2, hg2⟩
        have HM2 := Lib.hid (HM.out.num hr2 hg2)
        clear hr2 hg2 HM
        go_wp2_with fail
        refine (MZ0.out _).mono ?_
        rintro e w2' ⟨rfl, rfl⟩
        obtain ⟨x0, x1, x2, x3⟩ := HM2.out.sv
        have HM3 := Lib.hid (HM2.out.setT t')
        go_upto_region 12 with fail
        clear x0 x1 x2 x3 hwt hws hza
        generalize w2.setCell ⟨gS, 0, none⟩ (.int .i64 t') = w3 at *
        generalize st' = st at *
      all_goals
        clear HM2
        generalize zag (c : Int) = Z at *
        obtain ⟨x0, x1, x2, x3⟩ := HM3.out.sv
        have HMN := Lib.hid (fun n => HM3.out.drewN n)
        go_region_with (first
          | (go_at_call 30; refine (MZ.out _).mono ?_; rintro e wt' ⟨rfl, rfl⟩)
          | (go_at_call 29; refine (M2.out _ _ (HMN.out 1).pos).mono ?_; rintro e wt ⟨rfl, hrt, hgt⟩; have hM := (HMN.out 1).num hrt hgt; obtain ⟨y0, y1, y2, y3⟩ := hM.sv))
        all_goals
          have HM4 := Lib.hid (hM.setV v')
          clear x0 x1 x2 x3 y0 y1 y2 y3 hM hrt hgt hwv
          generalize wt.setCell ⟨gS, 1, none⟩ (.int .i64 v') = w4 at *
          have cw := HM4.out.pos.at_.c2
          obtain ⟨bb, hbb⟩ : ∃ bb, (b1 || b2) = bb := ⟨_, rfl⟩
          rw [hbb] at HM4 cw HLEFT
          clear hbb
          cases bb with
          | true =>
            have HE := Lib.hid (HGN.out (HLEFT.out.2 rfl))
            go_wp2_with fail
            refine (MD.out _ _ _ _ _ HM4.out.pos).mono ?_
            rintro e w5 ⟨rfl, hb5⟩
            have HQ : Hid (GetPost w G (.returned (.tuple #[.slice none 0 0, .int .i64 2])) w5) := Lib.hid (by rw [HE.out]; exact ⟨rfl, past HM4.out.below hb5⟩)
            clear hb5
            go_wp2
            (try rw [Exit.noGoto_ret])
            go_ret2
            exact HQ.out
          | false =>
            have HR2 := Lib.hid (HLEFT.out.1 rfl)
            obtain ⟨x0, x1, x2, x3⟩ := HM4.out.sv
            have HO : Hid ((w4.alloc (.cells #[.int .i64 t', .int .i64 v'] 48)).ownsRow w.heap.size 48 2 u5 out.length (sampV out)) := Lib.hid (own_alloc HM4.out.own _)
            have hsz := HM4.out.below.size
            have HNW := Lib.hid (new2 w4 t' v')
            go_wp2_with (at_builtin; refine wpList_append_lies _ rfl _ _ 22 rfl w.heap.size 48 i0 (.agg #[.int .i64 0, .int .i64 0]) 2 16 Tryd.underlying22 hi0 hz0 hz1 hz2 rfl (by decide) u5 out.length (sampV out) rfl HO.out ⟨w4.heap.size, 0, none⟩ 1 1 [.int .i64 t', .int .i64 v'] rfl rfl HNW.out (one2 _ _) (by decide) ?c3 ?c4 ?c5 (w4.alloc (.cells #[.int .i64 t', .int .i64 v'] 48)).heap.size rfl ?_)
            case c3 => unfold maxLen; omega
            case c4 => omega
            case c5 => (try simp); omega
            intro g2 cap2 wa hown hgrow hat hltg
            have HN : Hid (KGInv w wa gR gS A len cap bs R n (i + 1) st q2 false (.slice (some ⟨g2, 0, none⟩) (out.length + 1) cap2) (out ++ [(t', v')]) t' v') := Lib.hid ⟨HM4.out.app (x := (t', v')) hown hgrow (by simpa using hat), by
              intro y hy
              rw [List.mem_append, List.mem_singleton] at hy
              rcases hy with hy | rfl
              · exact HI.out.in2 y hy
              · exact ⟨HT'.out.1, HT'.out.2.1⟩, by rw [List.length_append, HOL.out]; rfl, HT'.out.2.2, ⟨HT'.out.1, HT'.out.2.1⟩, fun h => absurd h (by omega), fun _ => HR2.out, fun h => (by cases h)⟩
            clear hown hgrow hat hltg x0 x1 x2 x3
            go_wp2
            go_roundw
            case rel => exact ⟨i + 1, q2, st, t', v', false, _, by omega, rfl, by go_num, HN⟩
            case measure => simp [intOf]; omega
    · obtain rfl : i = n := by omega
      have HM := Lib.hid HI.out.mid
      have hle := HM.out.pos.le
      have hir : ¬ (i : Int) < (i : Int) := by omega
      obtain ⟨A2, cap2, hV, hS, hc2, hm2⟩ := own_form HM.out.own HI.out.in2
      subst hV
      have HSM := Lib.hid hS
      clear hS
      by_cases hgood : bad = false ∧ p = bs.length
      · obtain ⟨rfl, hpe⟩ := hgood
        have HE := Lib.hid (HGO.out out p hle (by
          have h1 := HI.out.says rfl
          have h2 : kLeft i i t st v (bs.drop p) = some ([], bs.drop p) := by
            match i, HI with
            | 0, _ => rfl
            | j + 1, _ => simp [kLeft, kOn]
          rw [h1, h2]
          simp))
        have md := fun w h => MD.out w.heap.size gR p false w h
        have MD2 : Hid (∀ B wx, RB wx B gR A len cap bs p false → Calls Tryd.prog 31 #[.pointer (some ⟨gR, 0, none⟩)] wx fun e w' => e = .returned (.bool true) ∧ Below wx.heap.size wx w') := Lib.hid (fun B wx h => by
          have := MD.out B gR p false wx h
          rw [decide_eq_true hpe] at this
          exact this)
        have HPE := Lib.hid hpe
        clear md hpe
        go_wp2_with fail
        refine (MD2.out _ _ HM.out.pos).mono ?_
        rintro e w5 ⟨rfl, hb5⟩
        have HB5 := Lib.hid (past HM.out.below hb5)
        have m6 := rising_any rfl (HSM.out.below hb5) hc2 hm2
        have HOWN5 : Hid (w5.ownsRow w.heap.size 48 2 (.slice A2 out.length cap2) out.length (sampV out)) := Lib.hid (own2_grown HM.out.own (grown_of hb5 none) (fun k _ => by simp))
        clear hb5
        by_cases hr : Rise out
        · rw [decide_eq_true hr] at m6
          have HQ : Hid (∀ w6, Below w5.heap.size w5 w6 → GetPost w G (.returned (.tuple #[.slice A2 out.length cap2, .int .i64 0])) w6) := Lib.hid (fun w6 h6 => by
            rw [HE.out, if_pos ⟨HPE.out, hr⟩]
            exact ⟨⟨_, rfl, own2_grown HOWN5.out (grown_of h6 none) (fun k _ => by simp), HI.out.in2⟩, past HB5.out h6⟩)
          have M6 := Lib.hid m6
          clear m6 hr
          go_wp2_with fail
          refine M6.out.mono ?_
          rintro e w6 ⟨rfl, hb6⟩
          have HQ6 := Lib.hid (HQ.out w6 hb6)
          clear hb6
          go_wp2
          (try rw [Exit.noGoto_ret])
          go_ret2
          exact HQ6.out
        · rw [decide_eq_false hr] at m6
          have HQ : Hid (∀ w6, Below w5.heap.size w5 w6 → GetPost w G (.returned (.tuple #[.slice none 0 0, .int .i64 2])) w6) := Lib.hid (fun w6 h6 => by
            rw [HE.out, if_neg (fun h => hr h.2)]
            exact ⟨rfl, past HB5.out h6⟩)
          have M6 := Lib.hid m6
          clear m6 hr
          go_wp2_with fail
          refine M6.out.mono ?_
          rintro e w6 ⟨rfl, hb6⟩
          have HQ6 := Lib.hid (HQ.out w6 hb6)
          clear hb6
          go_wp2
          (try rw [Exit.noGoto_ret])
          go_ret2
          exact HQ6.out
      · have HE : Hid (G = none) := Lib.hid (by
          cases hb : bad with
          | true =>
            subst hb
            exact HGN.out (HI.out.wrong rfl).1
          | false =>
            subst hb
            have h1 := HI.out.says rfl
            have h2 : kLeft i i t st v (bs.drop p) = some ([], bs.drop p) := by
              match i, HI with
              | 0, _ => rfl
              | j + 1, _ => simp [kLeft, kOn]
            rw [h2] at h1
            have h3 := HGO.out out p hle (by rw [h1]; simp)
            rw [if_neg (fun h => hgood ⟨rfl, h.1⟩)] at h3
            exact h3)
        have MD2 : Hid (∀ B wx, RB wx B gR A len cap bs p bad → Calls Tryd.prog 31 #[.pointer (some ⟨gR, 0, none⟩)] wx fun e w' => e = .returned (.bool false) ∧ Below wx.heap.size wx w') := Lib.hid (fun B wx h => by
          have := MD.out B gR p bad wx h
          have e : (!bad && decide (p = bs.length)) = false := by
            cases bad with
            | true => rfl
            | false => simp only [Bool.not_false, Bool.true_and, decide_eq_false_iff_not]; exact fun h => hgood ⟨rfl, h⟩
          rw [e] at this
          exact this)
        clear hgood
        go_wp2_with fail
        refine (MD2.out _ _ HM.out.pos).mono ?_
        rintro e w5 ⟨rfl, hb5⟩
        have HQ : Hid (GetPost w G (.returned (.tuple #[.slice none 0 0, .int .i64 2])) w5) := Lib.hid (by rw [HE.out]; exact ⟨rfl, past HM.out.below hb5⟩)
        clear hb5
        go_wp2
        (try rw [Exit.noGoto_ret])
        go_ret2
        exact HQ.out
end Go.Proofs.YtfojciolhokejaaDoor
