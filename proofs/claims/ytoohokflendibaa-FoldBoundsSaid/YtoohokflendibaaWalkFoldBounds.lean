/-
  The walk of FoldBounds: it returns true, and writes nothing that was there.
-/
import Derived.Test.YtoohokflendibaaWalkFoldOrder
import Derived.Deep.QuietTactic
import Derived.BigQuiet
namespace Go.Proofs.Ytoohokflendibaa.foldBounds
open Go.RowKit
open foldOrder (bils_length)
attribute [local go_sem ↓] Go.wp_at_zero Go.wp_at_succ

/-- The row on the way: the first k have their remainders. -/
def mid (l : List (Int × Int)) (k : Nat) : List (Int × Int) := bils (l.take k) ++ l.drop k
theorem mid_zero (l : List (Int × Int)) : mid l 0 = l := by simp [mid, bils]
theorem mid_all (l : List (Int × Int)) : mid l l.length = bils l := by simp [mid]
theorem mid_get (l : List (Int × Int)) (k : Nat) (hk : k < l.length) : (mid l k).getD k (0, 0) = l.getD k (0, 0) := by
  have h1 : (bils (l.take k)).length = k := by rw [bils_length, List.length_take]; omega
  unfold mid
  rw [List.getD_eq_getElem?_getD, List.getD_eq_getElem?_getD, List.getElem?_append_right (by omega), h1, List.getElem?_drop]
  simp
theorem mid_succ (l : List (Int × Int)) (k : Nat) (t v : Int) (hk : k < l.length) (h : l.getD k (0, 0) = (t, v)) : mid l (k + 1) = (mid l k).set k ((mid l k).getD k (0, 0) |>.1, bil v) := by
  rw [mid_get l k hk, h]
  have h1 : (bils (l.take k)).length = k := by rw [bils_length, List.length_take]; omega
  have e : l[k] = (t, v) := by rw [← h]; simp [hk]
  unfold mid
  rw [List.set_append_right _ _ (by omega), h1, Nat.sub_self]
  rw [List.take_succ_eq_append_getElem hk, e, List.drop_eq_getElem_cons hk, e]
  simp [bils]
theorem mid_in (l : List (Int × Int)) (h : In2 l) (k : Nat) : In2 (mid l k) := by
  intro s hs
  rcases List.mem_append.1 hs with hs | hs
  · obtain ⟨s', hs', rfl⟩ := List.mem_map.1 hs
    have := bil_lt s'.2
    exact ⟨(h s' (List.mem_of_mem_take hs')).1, by unfold In64; omega⟩
  · exact h s (List.mem_of_mem_drop hs)
/-- The sum on the way. -/
def sumTo (l : List (Int × Int)) (k : Nat) : Int := sumL (((bils l).map (·.2)).take k)
theorem sumTo_zero (l : List (Int × Int)) : sumTo l 0 = 0 := by simp [sumTo, sumL]
theorem sumTo_succ (l : List (Int × Int)) (k : Nat) (t v : Int) (hk : k < l.length) (h : l.getD k (0, 0) = (t, v)) : sumTo l (k + 1) = sumTo l k + bil v := by
  have hk' : k < ((bils l).map (·.2)).length := by rw [List.length_map, bils_length]; exact hk
  have e : l[k] = (t, v) := by rw [← h]; simp [hk]
  unfold sumTo
  rw [List.take_succ_eq_append_getElem hk', sumL_append]
  simp [sumL, bils, e]
theorem sumTo_bound (l : List (Int × Int)) : ∀ k, k ≤ l.length → -1000000000 * (k : Int) ≤ sumTo l k ∧ sumTo l k ≤ 1000000000 * (k : Int) := by
  intro k
  induction k with
  | zero => intro _; rw [sumTo_zero]; omega
  | succ k ih =>
    intro hk
    have h := ih (by omega)
    rw [sumTo_succ l k (l.getD k (0, 0)).1 (l.getD k (0, 0)).2 (by omega) rfl]
    have hb := bil_lt (l.getD k (0, 0)).2
    omega

theorem mem_take_succ (vs : List Int) (k : Nat) (m : Int) (hk : k < vs.length) : decide (m ∈ vs.take (k + 1)) = (decide (m ∈ vs.take k) || (vs.getD k 0 == m)) := by
  have e : vs.getD k 0 = vs[k] := by simp [hk]
  rw [e, List.take_succ_eq_append_getElem hk, Bool.eq_iff_iff]
  simp only [decide_eq_true_eq, List.mem_append, List.mem_singleton, Bool.or_eq_true, beq_iff_eq]
  exact ⟨fun h => h.imp id Eq.symm, fun h => h.imp id Eq.symm⟩

set_option maxRecDepth 100000 in
set_option maxHeartbeats 2000000 in
theorem walk (a0 : Option Addr) (len0 cap0 : Nat) (l : List (Int × Int)) (w : World) (s0 : l.length = len0 ∧ Samps w a0 l ∧ len0 ≤ cap0 ∧ cap0 ≤ maxLen ∧ (a0 = none → cap0 = 0)) :
    Calls Try.prog 4 #[.slice a0 len0 cap0] w fun e w' => e = .returned (.bool true) ∧ Below w.heap.size w w' := by
  obtain ⟨hlen, hS, hcap, hmax, hnone⟩ := s0
  by_cases h1 : len0 < 1
  · clear hlen hS hmax
    go_enter Try.func4, Try.ntmps4
    go_wp2_with fail
    refine (told_any _).mono ?_
    rintro e wt ⟨rfl, hbt⟩
    go_wp2
    go_ret
    exact ⟨rfl, hbt⟩
  by_cases h60 : 60 < len0
  · clear hlen hS hmax
    go_enter Try.func4, Try.ntmps4
    go_wp2_with fail
    refine (told_any _).mono ?_
    rintro e wt ⟨rfl, hbt⟩
    go_wp2
    go_ret
    exact ⟨rfl, hbt⟩
  obtain ⟨b, off, rfl, _⟩ := hS.2 (by omega)
  have HLEN := Lib.hid hlen
  have HS := Lib.hid hS
  obtain ⟨wl, hwl⟩ : ∃ wl, wl = w.alloc (.cells #[] 32) := ⟨_, rfl⟩
  have WL := Lib.hid hwl
  have hBl : Below w.heap.size w wl := by rw [hwl]; exact past_alloc (Below.refl _ _) _
  have OL : Hid (wl.ownsRow w.heap.size 32 2 (.slice (some ⟨w.heap.size, 0, none⟩) 0 0) 0 []) := Lib.hid (by
    rw [hwl]
    exact World.ownsRow_lit w #[] 0 (Nat.le_refl _) (by decide) rfl)
  have NL : Hid (∀ j u, (sampV l)[j]? = some u → wl.cell? ((⟨b, off, none⟩ : Addr).add j) = some u) := Lib.hid (hS.below hBl).news
  have LL : Hid ((sampV l).length = len0 * 2) := Lib.hid (by rw [sampV_length, hlen])
  have BL := Lib.hid hBl
  unfold maxLen at hmax
  clear hlen hS hnone hwl hBl
  obtain ⟨i0, hi, hz0, hz1, hz2⟩ := info_parts Try.info32
  go_enter Try.func4, Try.ntmps4
  go_wp2_with (at_builtin; rw [← WL.out]; refine wpList_append_lies _ rfl _ _ 22 rfl w.heap.size 32 i0 (.agg #[.int .i64 0, .int .i64 0]) 2 16 Try.underlying22 hi hz0 hz1 hz2 rfl (by decide) _ 0 [] rfl OL.out ⟨b, off, none⟩ len0 cap0 (sampV l) rfl LL.out NL.out (sampV_one _) (by omega) (by unfold maxLen; omega) (by omega) BL.out.size _ rfl ?_)
  intro g ca wa hown hgrow hat hltg
  have HA : Hid (wa.ownsRow w.heap.size 32 2 (.slice (some ⟨g, 0, none⟩) len0 ca) len0 (sampV (mid l 0)) ∧ Below w.heap.size w wa) := Lib.hid (by
    rw [mid_zero]
    refine ⟨by simpa using hown, BL.out.grown hgrow BL.out.size (fun k h => (OL.out.lt k h).1)⟩)
  clear hown hgrow hat hltg WL OL NL LL BL
  go_wp2
  go_loopw [4, 5] (fun su si wr => ∃ k : Nat, k ≤ len0 ∧ si = .int .i64 (k : Int) ∧ su = .int .i64 (sumTo l k) ∧ Hid (wr.ownsRow w.heap.size 32 2 (.slice (some ⟨g, 0, none⟩) len0 ca) len0 (sampV (mid l k)) ∧ Below w.heap.size w wr)) (fun _ si _ => len0 - (intOf si).toNat)
  case atStart => exact ⟨0, by omega, rfl, by rw [sumTo_zero], HA⟩
  case round =>
    obtain ⟨k, hk, rfl, rfl, HI⟩ := hrel
    by_cases hlt : k < len0
    · have hkl : k < l.length := by rw [HLEN.out]; exact hlt
      obtain ⟨hSm, hlm, hcm, hmm, hgb, hgl⟩ := Samps.own HI.out.1 (mid_in l HS.out.1 k)
      obtain ⟨b', off', e', hcs⟩ := hSm.2 (by omega)
      injection e' with e'
      injection e' with e1 e2
      subst e1 e2
      have hc1 := (hcs k (by omega)).2
      rw [mid_get l k hkl] at hc1
      have hsb := sumTo_bound l k (by omega)
      have hst := HI.out.1.stored (k * 2 + 1) (.int .i64 (bil (l.getD k (0, 0)).2))
      rw [sampV_set, ← mid_succ l k (l.getD k (0, 0)).1 (l.getD k (0, 0)).2 hkl rfl] at hst
      have hss := sumTo_succ l k (l.getD k (0, 0)).1 (l.getD k (0, 0)).2 hkl rfl
      have hz := bil_lt (l.getD k (0, 0)).2
      have hfz := HI.out.1.frozenAt (k * 2 + 1)
      have hzv : (l.getD k (0, 0)).2.tmod 1000000000 = bil (l.getD k (0, 0)).2 := rfl
      generalize (l.getD k (0, 0)).2 = v at hc1 hst hss hz hzv
      generalize bil v = z at hst hss hz hzv
      have HST : Hid ((wr.setCell ⟨g, k * 2 + 1, none⟩ (.int .i64 z)).ownsRow w.heap.size 32 2 (.slice (some ⟨g, 0, none⟩) len0 ca) len0 (sampV (mid l (k + 1))) ∧ Below w.heap.size w (wr.setCell ⟨g, k * 2 + 1, none⟩ (.int .i64 z))) := Lib.hid ⟨hst.1, HI.out.2.setCell hgb _⟩
      have HSS := Lib.hid hss
      generalize sumTo l k = S at *
      have i1 : (0 : Int) ≤ (k : Int) := by omega
      have i2 : (k : Int) < (len0 : Int) := by omega
      clear hSm hlm hcm hmm hcs hst hss
      simp only [Nat.zero_add] at hc1
      go_wp2
      go_roundw
      case rel => exact ⟨k + 1, by omega, by go_num, by rw [HSS.out], HST⟩
      case measure => simp [intOf]; omega
    · obtain rfl : k = len0 := by omega
      have hO := HI.out.1
      have hkl : k = l.length := HLEN.out.symm
      have hmid : mid l k = bils l := by rw [hkl]; exact mid_all l
      rw [hmid] at hO
      have hlb : (bils l).length = k := by rw [bils_length, HLEN.out]
      have hb2 : In2 (bils l) := by rw [← hmid]; exact mid_in l HS.out.1 k
      obtain ⟨hSm, hlm, hcm, hmm, hgb, hgl⟩ := Samps.own hO hb2
      have hv : ∀ v ∈ (bils l).map (·.2), -1000000000 < v ∧ v < 1000000000 := by
        intro v hv
        obtain ⟨s, hs, rfl⟩ := List.mem_map.1 hv
        obtain ⟨s', _, rfl⟩ := List.mem_map.1 hs
        exact bil_lt s'.2
      have hvl : ((bils l).map (·.2)).length = k := by rw [List.length_map]; exact hlb
      have e1 := all_small 3 (by decide) ((bils l).map (·.2)) (by omega) (by omega) hv
      have hof := of_bounds 3 (by decide) ((bils l).map (·.2)) (by omega) (by omega)
      have hak := all_ok 3 (by decide) ((bils l).map (·.2)) (fun v h => by have := hv v h; unfold In64; omega)
      have hsum : sumTo l k = sumL ((bils l).map (·.2)) := by
        unfold sumTo
        rw [List.take_of_length_le (by omega)]
      have jA := fun w' (hb : Below wr.heap.size wr w') => all_any (len := k) (cap := ca) 3 hlm (by omega) (hSm.below hb) hcm hmm (by decide)
      rw [e1] at jA hak
      simp only at hak
      generalize Ag.of 3 ((bils l).map (·.2)) = a at *
      obtain ⟨o1, o2, o3, o4, o5, o6, o7, o8, o9⟩ := hof
      have mA := fun w => may_any a w hak
      rw [decide_eq_true o1] at mA
      clear o1 hak
      obtain ⟨af, ac, asum, an, ax, ai, al⟩ := a
      simp only at o2 o3 o4 o5 o6 o7 o8 o9
      rw [← hsum] at o4
      rw [hvl] at o3 o6
      subst o2 o3 o4
      have hcellv : ∀ w', Samps w' (some ⟨g, 0, none⟩) (bils l) → ∀ j, j < k → w'.cell? ⟨g, j * 2 + 1, none⟩ = some (.int .i64 (((bils l).map (·.2)).getD j 0)) := by
        intro w' hs' j hj
        obtain ⟨b', off', e', hcs⟩ := hs'.2 (by omega)
        injection e' with e'
        injection e' with e1 e2
        subst e1 e2
        have h2 := (hcs j (by omega)).2
        rw [Nat.zero_add] at h2
        rw [h2]
        congr 2
        rw [List.getD_eq_getElem?_getD, List.getD_eq_getElem?_getD, List.getElem?_map]
        have hjl : j < (bils l).length := by omega
        rw [List.getElem?_eq_getElem hjl]
        rfl
      have CELLV := Lib.hid hcellv
      have JA := Lib.hid jA
      have MA := Lib.hid mA
      have HSM := Lib.hid hSm
      have HBEL := Lib.hid HI.out.2
      generalize (bils l).map (·.2) = vs at *
      have HVS := Lib.hid hvl
      have O5 := Lib.hid o5
      have O6 := Lib.hid o6
      have O7 := Lib.hid o7
      have O8 := Lib.hid o8
      have O9 := Lib.hid o9
      unfold Ag.val at JA MA
      generalize sumTo l k = S at *
      clear hkl hv e1 jA mA hsum hcellv hvl o5 o6 o7 o8 o9 hSm hlm hcm hmm hb2 hlb hO hmid HI HA
      go_wp2_with fail
      refine (JA.out _ (Below.refl _ _)).mono ?_
      rintro e w2 ⟨rfl, h2⟩
      obtain ⟨ws, hws⟩ : ∃ ws, ws = w2.alloc (.cells #[.int .i64 3, .int .i64 (k : Int), .int .i64 S, .int .i64 an, .int .i64 ax, .int .i64 ai, .int .i64 al] 26) := ⟨_, rfl⟩
      have FS : Hid (Holds ws w2.heap.size ⟨3, k, S, an, ax, ai, al⟩ ∧ Samps ws (some ⟨g, 0, none⟩) (bils l) ∧ Below w.heap.size w ws) := Lib.hid (by
        rw [hws]
        exact ⟨Holds.new w2 ⟨3, k, S, an, ax, ai, al⟩, HSM.out.below (past_alloc h2 _), past HBEL.out (past_alloc h2 _)⟩)
      have HWS := Lib.hid hws
      clear h2 hws JA HSM HBEL
      go_wp2
      rw [← HWS.out]
      clear HWS
      generalize w2.heap.size = g6 at *
      go_loopw [8, 9, 10] (fun lo hi si wr => ∃ (j : Nat) (p q : Bool), j ≤ k ∧ si = .int .i64 (j : Int) ∧ lo = .bool p ∧ hi = .bool q ∧ Hid (p = decide (an ∈ vs.take j) ∧ q = decide (ax ∈ vs.take j) ∧ Below ws.heap.size ws wr)) (fun _ _ si _ => k - (intOf si).toNat)
      case atStart => exact ⟨0, false, false, by omega, rfl, rfl, rfl, Lib.hid ⟨by simp, by simp, Below.refl _ _⟩⟩
      case round =>
        obtain ⟨j, p, q, hj, rfl, rfl, rfl, HI⟩ := hrel
        by_cases hlt2 : j < k
        · obtain ⟨hp, hq, hbw⟩ := HI.out
          have hjv : j < vs.length := by rw [HVS.out]; exact hlt2
          have hcv := CELLV.out _ (FS.out.2.1.below hbw) j hlt2
          obtain ⟨_, _, _, c3, c4, _, _⟩ := FS.out.1.below hbw
          simp only at c3 c4
          have hvm : vs.getD j 0 ∈ vs := by
            have e : vs.getD j 0 = vs[j] := by simp [hjv]
            rw [e]; exact List.getElem_mem hjv
          have hb7 := O7.out _ hvm
          have hp' := mem_take_succ vs j an hjv
          have hq' := mem_take_succ vs j ax hjv
          generalize vs.getD j 0 = v at hcv hb7 hp' hq'
          have t1 : decide (v < an) = false := decide_eq_false (by omega)
          have t2 : decide (ax < v) = false := decide_eq_false (by omega)
          obtain ⟨r1, h1r⟩ : ∃ r1, (v == an) = r1 := ⟨_, rfl⟩
          obtain ⟨r2, h2r⟩ : ∃ r2, (v == ax) = r2 := ⟨_, rfl⟩
          have HN : Hid ((p || r1) = decide (an ∈ vs.take (j + 1)) ∧ (q || r2) = decide (ax ∈ vs.take (j + 1)) ∧ ∀ n, Below ws.heap.size ws (wr.drewN n)) := Lib.hid ⟨by rw [hp', hp, h1r], by rw [hq', hq, h2r], fun n => past hbw (belowN wr n)⟩
          have i1 : (0 : Int) ≤ (j : Int) := by omega
          have i2 : (j : Int) < (k : Int) := by omega
          clear hp hq hbw hp' hq' hvm hb7 hjv HI
          cases p <;> cases q
          all_goals
            go_wp2
            go_quiet (fail)
            go_wp2
            clear t1 t2
            go_quiet (fail)
            go_wp2
            go_roundw
            case rel => exact ⟨j + 1, _, _, by omega, by go_num, rfl, rfl, Lib.hid ⟨by simpa using HN.out.1, by simpa using HN.out.2.1, HN.out.2.2 _⟩⟩
            case measure => simp [intOf]; omega
        · obtain rfl : j = k := by omega
          obtain ⟨hp, hq, hbw⟩ := HI.out
          rw [List.take_of_length_le (by rw [HVS.out]; omega)] at hp hq
          rw [decide_eq_true O8.out] at hp
          rw [decide_eq_true O9.out] at hq
          subst hp hq
          have hS : ∀ w', Below ws.heap.size ws w' → w'.cell? ⟨g6, 0, none⟩ = some (.int .i64 3) ∧ w'.cell? ⟨g6, 1, none⟩ = some (.int .i64 (j : Int)) ∧ w'.cell? ⟨g6, 2, none⟩ = some (.int .i64 S) ∧ w'.cell? ⟨g6, 3, none⟩ = some (.int .i64 an) ∧ w'.cell? ⟨g6, 4, none⟩ = some (.int .i64 ax) ∧ w'.cell? ⟨g6, 5, none⟩ = some (.int .i64 ai) ∧ w'.cell? ⟨g6, 6, none⟩ = some (.int .i64 al) ∧
              w'.cell? ⟨g, 1, none⟩ = some (.int .i64 ai) ∧ w'.cell? ⟨g, (j - 1) * 2 + 1, none⟩ = some (.int .i64 al) := fun w' hb => by
            obtain ⟨c0, c1, c2, c3, c4, c5, c6⟩ := FS.out.1.below hb
            refine ⟨c0, c1, c2, c3, c4, c5, c6, ?_, ?_⟩
            · rw [O5.out]
              exact CELLV.out _ (FS.out.2.1.below hb) 0 (by omega)
            · rw [O6.out]
              exact CELLV.out _ (FS.out.2.1.below hb) (j - 1) (by omega)
          have HSK : Hid (∀ w', Below wr.heap.size wr w' → w'.cell? ⟨g6, 0, none⟩ = some (.int .i64 3) ∧ w'.cell? ⟨g6, 1, none⟩ = some (.int .i64 (j : Int)) ∧ w'.cell? ⟨g6, 2, none⟩ = some (.int .i64 S) ∧ w'.cell? ⟨g6, 3, none⟩ = some (.int .i64 an) ∧ w'.cell? ⟨g6, 4, none⟩ = some (.int .i64 ax) ∧ w'.cell? ⟨g6, 5, none⟩ = some (.int .i64 ai) ∧ w'.cell? ⟨g6, 6, none⟩ = some (.int .i64 al) ∧
              w'.cell? ⟨g, 1, none⟩ = some (.int .i64 ai) ∧ w'.cell? ⟨g, (j - 1) * 2 + 1, none⟩ = some (.int .i64 al)) := Lib.hid (fun w' hb => hS w' (past hbw hb))
          obtain ⟨c0, c1, c2, c3, c4, c5, c6, c7, c8⟩ := hS wr hbw
          have HBW : Hid (Below w.heap.size w wr) := Lib.hid (past FS.out.2.2 hbw)
          have i1 : (0 : Int) < (j : Int) := by omega
          have i0n : 0 < j := by omega
          have i2 : IntKind.i64.wrap ((j : Int) - 1) = (j : Int) - 1 := by rw [IntKind.wrap_i64]; omega
          have i3 : (0 : Int) ≤ (j : Int) - 1 := by omega
          have i4 : (j : Int) - 1 < (j : Int) := by omega
          have i5 : ((j : Int) - 1).toNat = j - 1 := by omega
          clear hS hbw FS CELLV O5 O6 O7 O8 O9 HI HVS HS HLEN
          go_upto_region 18 with fail
          go_region_held3 (fun w' => w'.cell? ⟨g6, 0, none⟩ = some (.int .i64 3) ∧ w'.cell? ⟨g6, 1, none⟩ = some (.int .i64 (j : Int)) ∧ w'.cell? ⟨g6, 2, none⟩ = some (.int .i64 S) ∧ w'.cell? ⟨g6, 3, none⟩ = some (.int .i64 an) ∧ w'.cell? ⟨g6, 4, none⟩ = some (.int .i64 ax) ∧ w'.cell? ⟨g6, 5, none⟩ = some (.int .i64 ai) ∧ w'.cell? ⟨g6, 6, none⟩ = some (.int .i64 al) ∧
              w'.cell? ⟨g, 1, none⟩ = some (.int .i64 ai) ∧ w'.cell? ⟨g, (j - 1) * 2 + 1, none⟩ = some (.int .i64 al))
            (first
              | exact HSK.out _ hBu
              | exact HSK.out _ hB
              | go_keep)
            (first
              | (go_at_call 8; refine (told_any _).mono ?_; rintro e wt ⟨rfl, hbt⟩; have hB : Below wr.heap.size wr wt := (belowN wr 1).trans hbt)
              | (go_at_call 11; refine (MA.out _).mono ?_; rintro e wu ⟨rfl, hbu⟩; have hBu : Below wr.heap.size wr wu := past hB hbu))
          all_goals
            go_wp2
            go_ret
            exact ⟨rfl, past HBW.out hBu⟩
end Go.Proofs.Ytoohokflendibaa.foldBounds
