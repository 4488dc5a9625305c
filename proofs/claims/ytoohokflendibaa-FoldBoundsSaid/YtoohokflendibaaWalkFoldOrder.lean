/-
  The walk of FoldOrder: it returns true, and writes nothing that was there.
-/
import Derived.Test.YtoohokflendibaaOwn
import Derived.Test.YtoohokflendibaaSmall
namespace Go.Proofs.Ytoohokflendibaa.foldOrder
open Go.RowKit

theorem bils_length (l : List (Int × Int)) : (bils l).length = l.length := by simp [bils]
theorem take_bils {l : List (Int × Int)} {k : Nat} {t v : Int} (hk : k < l.length) (h : l.getD k (0, 0) = (t, v)) : (bils l).take (k + 1) = (bils l).take k ++ [(t, bil v)] := by
  have hk' : k < (bils l).length := by rw [bils_length]; exact hk
  rw [List.take_succ_eq_append_getElem hk']
  congr 2
  have e : l[k] = (t, v) := by rw [← h]; simp [hk]
  simp [bils, e]

set_option maxRecDepth 100000 in
set_option maxHeartbeats 2000000 in
theorem walk (a0 : Option Addr) (len0 cap0 : Nat) (l : List (Int × Int)) (w : World) (s0 : l.length = len0 ∧ Samps w a0 l ∧ len0 ≤ cap0 ∧ cap0 ≤ maxLen ∧ (a0 = none → cap0 = 0)) :
    Calls Try.prog 7 #[.slice a0 len0 cap0] w fun e w' => e = .returned (.bool true) ∧ Below w.heap.size w w' := by
  obtain ⟨hlen, hS, hcap, hmax, hnone⟩ := s0
  by_cases h1 : len0 < 1
  · clear hlen hS hmax
    go_enter Try.func7, Try.ntmps7
    go_wp2_with fail
    refine (told_any _).mono ?_
    rintro e wt ⟨rfl, hbt⟩
    go_wp2
    go_ret
    exact ⟨rfl, hbt⟩
  by_cases h60 : 40 < len0
  · clear hlen hS hmax
    go_enter Try.func7, Try.ntmps7
    go_wp2_with fail
    refine (told_any _).mono ?_
    rintro e wt ⟨rfl, hbt⟩
    go_wp2
    go_ret
    exact ⟨rfl, hbt⟩
  obtain ⟨b, off, rfl, hcell⟩ := hS.2 (by omega)
  have HLEN := Lib.hid hlen
  have HS := Lib.hid hS
  have HC := Lib.hid hcell
  unfold maxLen at hmax
  clear hlen hS hcell hnone
  go_enter Try.func7, Try.ntmps7
  go_wp2
  go_loopw [3, 4, 5] (fun va vb si wr => ∃ k : Nat, k ≤ len0 ∧ si = .int .i64 (k : Int) ∧ Hid (wr.ownsRow w.heap.size 32 2 va k (sampV ((bils l).take k)) ∧ wr.ownsRow w.heap.size 32 2 vb k (sampV ((bils l).take k).reverse) ∧ (vb.ownBlock = none ∨ vb.ownBlock ≠ va.ownBlock) ∧ Below w.heap.size w wr ∧ (k = 0 → vb = .slice none 0 0))) (fun _ _ si _ => len0 - (intOf si).toNat)
  case atStart => exact ⟨0, by omega, rfl, Lib.hid ⟨World.ownsRow_nil _ _ _ _, World.ownsRow_nil _ _ _ _, .inl rfl, Below.refl _ _, fun _ => rfl⟩⟩
  case round =>
    obtain ⟨k, hk, rfl, HI⟩ := hrel
    by_cases hlt : k < len0
    · obtain ⟨c0, c1⟩ := HC.out k (by rw [HLEN.out]; exact hlt)
      have hbel := HI.out.2.2.2.1
      rw [← hbel.cell (World.block_lt_of_cell? w _ c0)] at c0
      rw [← hbel.cell (World.block_lt_of_cell? w _ c1)] at c1
      have hs := HS.out.1 _ (sample_mem (l := l) (j := k) (by rw [HLEN.out]; exact hlt))
      generalize hsk : l.getD k (0, 0) = s1 at c0 c1 hs
      obtain ⟨t1, v1⟩ := s1
      simp only at c0 c1 hs
      have HSK := Lib.hid hsk
      have HSS := Lib.hid hs
      clear hsk hs hbel
      have i1 : (0 : Int) ≤ (k : Int) := by omega
      have i2 : (k : Int) < (len0 : Int) := by omega
      obtain ⟨z, hz⟩ : ∃ z, v1.tmod 1000000000 = z := ⟨_, rfl⟩
      have HZ : Hid (bil v1 = z) := Lib.hid hz
      have HTAKE : Hid ((bils l).take (k + 1) = (bils l).take k ++ [(t1, z)]) := Lib.hid (by rw [← HZ.out]; exact take_bils (by rw [HLEN.out]; exact hlt) HSK.out)
      obtain ⟨w9, hw9⟩ : ∃ w9, w9 = (wr.alloc (.cells #[.int .i64 t1, .int .i64 z] 32)).alloc (.cells #[.int .i64 t1, .int .i64 z] 32) := ⟨_, rfl⟩
      have hB9 : Below wr.heap.size wr w9 := by rw [hw9]; exact past_alloc (past_alloc (Below.refl _ _) _) _
      have hs9 : w9.heap.size = wr.heap.size + 1 + 1 := by rw [hw9]; simp
      have hO9 : w9.ownsRow w.heap.size 32 2 u3 k (sampV ((bils l).take k)) := own_below HI.out.1 hB9
      have hP9 : w9.ownsRow w.heap.size 32 2 u4 k (sampV ((bils l).take k).reverse) := own_below HI.out.2.1 hB9
      have hN9 : ∀ j u, ([.int .i64 t1, .int .i64 z] : List Value)[j]? = some u → w9.cell? ((⟨wr.heap.size + 1, 0, none⟩ : Addr).add j) = some u := by
        intro j u hj
        rw [addr_add, hw9]
        match j, hj with
        | 0, hj => simp at hj; subst hj; simp [go_sem]
        | 1, hj => simp at hj; subst hj; simp [go_sem]
      have h96 : w9.cell? ⟨wr.heap.size, 0, none⟩ = some (.int .i64 t1) ∧ w9.cell? ⟨wr.heap.size, 1, none⟩ = some (.int .i64 z) := by
        rw [hw9]
        refine ⟨?_, ?_⟩ <;> simp [go_sem]
      have hne9 : some wr.heap.size ≠ u3.ownBlock := by
        intro e
        have := (HI.out.1.lt _ e.symm).2
        omega
      have hbz : w.heap.size ≤ w9.heap.size := Nat.le_trans HI.out.2.2.2.1.size hB9.size
      have hbB : Below w.heap.size w w9 := past HI.out.2.2.2.1 hB9
      have W9 := Lib.hid hw9
      have S9 := Lib.hid hs9
      have O9 := Lib.hid hO9
      have P9 := Lib.hid hP9
      have N9 := Lib.hid hN9
      have C9 := Lib.hid h96
      have E9 := Lib.hid hne9
      have Z9 := Lib.hid hbz
      have BB := Lib.hid hbB
      clear hw9 hB9 hs9 hO9 hP9 hN9 h96 hne9 hbz hbB
      go_upto_region 9 with fail
      clear c0 c1
      obtain ⟨i0, hi, hz0, hz1, hz2⟩ := info_parts Try.info32
      go_wp2_with (at_builtin; rw [← W9.out]; refine wpList_append_lies _ rfl _ _ 22 rfl w.heap.size 32 i0 (.agg #[.int .i64 0, .int .i64 0]) 2 16 Try.underlying22 hi hz0 hz1 hz2 rfl (by decide) u3 k (sampV ((bils l).take k)) rfl O9.out ⟨wr.heap.size + 1, 0, none⟩ 1 1 [.int .i64 t1, .int .i64 z] rfl rfl N9.out (by simp [Value.oneCell']) (by decide) (by unfold maxLen; omega) (by omega) Z9.out _ rfl ?_)
      intro g ca wa hown hgrow hat hltg
      have OA : Hid (wa.ownsRow w.heap.size 32 2 (.slice (some ⟨g, 0, none⟩) (k + 1) ca) (k + 1) (sampV ((bils l).take (k + 1)))) := Lib.hid (by
        rw [HTAKE.out, sampV_append]
        exact hown)
      have PA : Hid (wa.ownsRow w.heap.size 32 2 u4 k (sampV ((bils l).take k).reverse)) := Lib.hid (P9.out.kept hgrow HI.out.2.2.1)
      have hc0 := hgrow.cell C9.out.1 E9.out
      have hc1 := hgrow.cell C9.out.2 E9.out
      have BA : Hid (Below w.heap.size w wa) := Lib.hid (BB.out.grown hgrow Z9.out (fun k h => (O9.out.lt k h).1))
      have LG := Lib.hid hltg
      obtain ⟨wl, hwl⟩ : ∃ wl, wl = wa.alloc (.cells #[.int .i64 t1, .int .i64 z] 32) := ⟨_, rfl⟩
      have hBl : Below wa.heap.size wa wl := by rw [hwl]; exact past_alloc (Below.refl _ _) _
      have hsl : wl.heap.size = wa.heap.size + 1 := by rw [hwl]; simp
      have hOl : wl.ownsRow w.heap.size 32 2 (.slice (some ⟨wa.heap.size, 0, none⟩) 1 1) 1 [.int .i64 t1, .int .i64 z] := by
        rw [hwl]
        exact World.ownsRow_lit wa #[.int .i64 t1, .int .i64 z] 1 BA.out.size (by decide) rfl
      have hAl : wl.ownsRow w.heap.size 32 2 (.slice (some ⟨g, 0, none⟩) (k + 1) ca) (k + 1) (sampV ((bils l).take (k + 1))) := own_below OA.out hBl
      have hPl : wl.ownsRow w.heap.size 32 2 u4 k (sampV ((bils l).take k).reverse) := own_below PA.out hBl
      have hzl : w.heap.size ≤ wl.heap.size := Nat.le_trans BA.out.size hBl.size
      have WL := Lib.hid hwl
      have SL := Lib.hid hsl
      have OL := Lib.hid hOl
      have AL := Lib.hid hAl
      have PL := Lib.hid hPl
      have ZL := Lib.hid hzl
      have BL : Hid (Below w.heap.size w wl) := Lib.hid (past BA.out hBl)
      have HREV : Hid (sampV ((bils l).take (k + 1)).reverse = [.int .i64 t1, .int .i64 z] ++ sampV ((bils l).take k).reverse) := Lib.hid (by
        rw [HTAKE.out, List.reverse_append, sampV_append]
        rfl)
      clear hown hgrow hat hltg hwl hBl hsl hOl hAl hPl hzl C9 E9 O9 P9 N9 Z9 BB S9 W9 OA PA BA
      by_cases hk0 : k = 0
      · have hu4 := HI.out.2.2.2.2 hk0
        subst hu4
        have HK0 := Lib.hid hk0
        clear hk0
        go_wp2_with (at_builtin; rw [← WL.out]; refine wpList_append_own_none rfl _ _ 22 rfl w.heap.size 32 i0 2 Try.underlying22 hi _ 1 [.int .i64 t1, .int .i64 z] rfl OL.out rfl ?_)
        go_wp2
        go_roundw
        case rel =>
          refine ⟨k + 1, by omega, by go_num, Lib.hid ⟨AL.out, ?_, .inr ?_, BL.out, fun e => by omega⟩⟩
          · have hk0 := HK0.out
            subst hk0
            rw [HREV.out]
            exact OL.out
          · intro e
            simp [Value.ownBlock] at e
            have := LG.out
            omega
        case measure => simp [intOf]; omega
      · obtain ⟨gb, cb, hu4, hgb1, hgb2⟩ := PL.out.form (by omega)
        subst hu4
        have NL : Hid (∀ j u, (sampV ((bils l).take k).reverse)[j]? = some u → wl.cell? ((⟨gb, 0, none⟩ : Addr).add j) = some u) := Lib.hid (PL.out.cells (g := gb) rfl)
        have LL : Hid ((sampV ((bils l).take k).reverse).length = k * 2) := Lib.hid PL.out.1
        go_wp2_with (at_builtin; rw [← WL.out]; refine wpList_append_lies _ rfl _ _ 22 rfl w.heap.size 32 i0 (.agg #[.int .i64 0, .int .i64 0]) 2 16 Try.underlying22 hi hz0 hz1 hz2 rfl (by decide) (.slice (some ⟨wa.heap.size, 0, none⟩) 1 1) 1 [.int .i64 t1, .int .i64 z] rfl OL.out ⟨gb, 0, none⟩ k cb (sampV ((bils l).take k).reverse) rfl LL.out NL.out (sampV_one _) (by omega) (by unfold maxLen; omega) (by omega) ZL.out _ rfl ?_)
        intro g2 c2 wb hown2 hgrow2 hat2 hlt2
        have HX : Hid (wb.ownsRow w.heap.size 32 2 (.slice (some ⟨g, 0, none⟩) (k + 1) ca) (k + 1) (sampV ((bils l).take (k + 1))) ∧ wb.ownsRow w.heap.size 32 2 (.slice (some ⟨g2, 0, none⟩) (1 + k) c2) (1 + k) (sampV ((bils l).take (k + 1)).reverse) ∧ g2 ≠ g ∧ Below w.heap.size w wb) := Lib.hid (by
          have hlg := LG.out
          have hsl := SL.out
          refine ⟨AL.out.kept hgrow2 (.inr ?_), ?_, ?_, BL.out.grown hgrow2 ZL.out (fun k h => (OL.out.lt k h).1)⟩
          · intro e
            simp [Value.ownBlock] at e
            omega
          · rw [HREV.out]
            exact hown2
          · rcases hat2 with e | e
            · simp [Value.ownBlock] at e
              omega
            · omega)
        clear hown2 hgrow2 hat2 hlt2
        go_wp2
        go_roundw
        case rel =>
          refine ⟨k + 1, by omega, by go_num, Lib.hid ⟨HX.out.1, ?_, .inr ?_, HX.out.2.2.2, fun e => by omega⟩⟩
          · have h := HX.out.2.1
            rw [Nat.add_comm 1 k] at h
            first
              | exact h
              | (rw [Nat.add_comm 1 k]; exact h)
          · intro e
            simp [Value.ownBlock] at e
            exact HX.out.2.2.1 e
        case measure => simp [intOf]; omega
    · obtain rfl : k = len0 := by omega
      have hlb : (bils l).length = k := by rw [bils_length, HLEN.out]
      have hb2 : In2 (bils l) := by
        intro s hs
        obtain ⟨s', hs', rfl⟩ := List.mem_map.1 hs
        have := bil_lt s'.2
        exact ⟨(HS.out.1 s' hs').1, by unfold In64; omega⟩
      have hb2r : In2 (bils l).reverse := fun s hs => hb2 s (List.mem_reverse.1 hs)
      have hO := HI.out.1
      have hP := HI.out.2.1
      rw [List.take_of_length_le (by omega)] at hO hP
      obtain ⟨ga, ca, hu3, _, _⟩ := hO.form (by omega)
      obtain ⟨gb, cb, hu4, _, _⟩ := hP.form (by omega)
      subst hu3 hu4
      obtain ⟨hSa, hla, hca, hma, _, _⟩ := Samps.own hO hb2
      obtain ⟨hSb, hlb', hcb, hmb, _, _⟩ := Samps.own hP hb2r
      have hv : ∀ v ∈ (bils l).map (·.2), -1000000000 < v ∧ v < 1000000000 := by
        intro v hv
        obtain ⟨s, hs, rfl⟩ := List.mem_map.1 hv
        obtain ⟨s', _, rfl⟩ := List.mem_map.1 hs
        exact bil_lt s'.2
      have e1 := all_small 0 (by decide) ((bils l).map (·.2)) (by rw [List.length_map]; omega) (by rw [List.length_map]; omega) hv
      have e2 := all_small 0 (by decide) ((bils l).reverse.map (·.2)) (by rw [List.length_map, List.length_reverse]; omega) (by rw [List.length_map, List.length_reverse]; omega) (fun v h => hv v (by
        rw [List.map_reverse] at h
        exact List.mem_reverse.1 h))
      have hmir := of_mirror 0 ((bils l).map (·.2)) (by rw [List.length_map]; omega)
      rw [← List.map_reverse] at hmir
      have jA := fun w' (hb : Below wr.heap.size wr w') => all_any (len := k) (cap := ca) 0 hla (by omega) (hSa.below hb) hca hma (by decide)
      have jB := fun w' (hb : Below wr.heap.size wr w') => all_any (len := k) (cap := cb) 0 hlb' (by omega) (hSb.below hb) hcb hmb (by decide)
      rw [e1] at jA
      rw [e2] at jB
      generalize Ag.of 0 ((bils l).map (·.2)) = x at *
      generalize Ag.of 0 ((bils l).reverse.map (·.2)) = y at *
      obtain ⟨yf, yc, ys, yn, yx, yi, yl⟩ := y
      obtain ⟨q1, q2, q3, q4, q5, q6⟩ := hmir
      simp only at q1 q2 q3 q4 q5 q6
      subst q1 q2 q3 q4 q5 q6
      have JA := Lib.hid jA
      have JB := Lib.hid jB
      have HBEL := Lib.hid HI.out.2.2.2.1
      unfold Ag.val at JA JB
      clear jA jB e1 e2 hv hSa hla hca hma hSb hlb' hcb hmb hO hP hb2 hb2r hlb HI HC
      go_wp2_with fail
      refine (JA.out _ (Below.refl _ _)).mono ?_
      rintro e w2 ⟨rfl, h2⟩
      have F2 := Lib.hid h2
      have N2 := Lib.hid (Holds.new w2 x)
      clear h2
      go_wp2_with fail
      refine (JB.out _ (past_alloc F2.out _)).mono ?_
      rintro e w3 ⟨rfl, h3⟩
      have F3 : Hid (Holds w3 w2.heap.size x ∧ Below w.heap.size w w3) := Lib.hid ⟨N2.out.below h3, past HBEL.out (past (past_alloc F2.out _) h3)⟩
      have N3 := Lib.hid (Holds.new w3 ⟨yf, x.cn, x.sm, x.mn, x.mx, x.la, x.fi⟩)
      clear h3 F2 N2 HBEL JA JB
      generalize w2.heap.size = gx at *
      go_wp2_with fail
      refine (told_any _).mono ?_
      rintro e wt ⟨rfl, hbt⟩
      obtain ⟨c0, c1, c2, c3, c4, c5, c6⟩ := (F3.out.1.past _).below hbt
      obtain ⟨d0, d1, d2, d3, d4, d5, d6⟩ := N3.out.below hbt
      simp only at d0 d1 d2 d3 d4 d5 d6
      have HT := Lib.hid (past (past_alloc F3.out.2 _) hbt)
      clear hbt F3 N3
      generalize w3.heap.size = gy at *
      go_wp2
      go_ret
      exact ⟨rfl, HT.out⟩
end Go.Proofs.Ytoohokflendibaa.foldOrder
