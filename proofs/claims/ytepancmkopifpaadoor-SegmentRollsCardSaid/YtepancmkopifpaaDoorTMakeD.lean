/-
  Rise: the samples that it makes: their times rise, their values are those given, or their places; nothing that was there is written.
-/
import Derived.Test.YtepancmkopifpaaDoorTArgs
import Derived.Deep.AppendLies
namespace Go.Proofs.YtepancmkopifpaaDoor
open Go.RowKit
set_option linter.unusedVariables false

theorem getD_snoc_lt {L : List (Int × Int)} {s : Int × Int} {i : Nat} (h : i < L.length) : (L ++ [s]).getD i (0, 0) = L.getD i (0, 0) := by
  rw [List.getD_eq_getElem?_getD, List.getD_eq_getElem?_getD, List.getElem?_append_left h]
theorem getD_snoc_eq {L : List (Int × Int)} {s : Int × Int} : (L ++ [s]).getD L.length (0, 0) = s := by
  rw [List.getD_eq_getElem?_getD, List.getElem?_append_right (Nat.le_refl _)]
  simp
theorem rise_snoc {L : List (Int × Int)} {s : Int × Int} (h : Rise L) (hs : Ag.begin_ s.1) (hl : ∀ j, j < L.length → tAt L j < s.1) : Rise (L ++ [s]) := fun i hi => by
  rw [List.length_append, List.length_singleton] at hi
  unfold riseAt tAt
  rcases Nat.lt_or_ge i L.length with hlt | hge
  · rw [getD_snoc_lt hlt, getD_snoc_lt (by omega)]
    exact h i hlt
  · obtain rfl : i = L.length := by omega
    rw [getD_snoc_eq]
    refine ⟨hs, fun h0 => ?_⟩
    rw [getD_snoc_lt (by omega)]
    exact hl (L.length - 1) (by omega)

/-- The time of Rise's last sample behind k rounds; the values; the samples. -/
def riT (l : List Int) : Nat → Int
  | 0 => 0
  | k + 1 => riT l k + 1 + (IntKind.u64.wrap (l.getD k 0)).tmod 40
def riV (l1 : List Int) (len1 k : Nat) : Int := if k < len1 then l1.getD k 0 else (k : Int)
def riL (l l1 : List Int) (len1 : Nat) : Nat → List (Int × Int)
  | 0 => []
  | k + 1 => riL l l1 len1 k ++ [(riT l (k + 1), riV l1 len1 k)]
theorem riL_len (l l1 : List Int) (len1 : Nat) : ∀ k, (riL l l1 len1 k).length = k
  | 0 => rfl
  | k + 1 => by rw [riL, List.length_append, riL_len l l1 len1 k]; rfl

/-- What Rise has made behind k rounds. -/
structure MadeInv (w wr : World) (l1 : List Int) (len1 k : Nat) (T : Int) (L : List (Int × Int)) (v : Value) : Prop where
  len : L.length = k
  own : wr.ownsRow w.heap.size 28 2 v k (sampV L)
  below : Below w.heap.size w wr
  rise : Rise L
  bits : In2 L
  upto : ∀ j, j < k → tAt L j ≤ T
  vals : ∀ j, j < k → (L.getD j (0, 0)).2 = if j < len1 then l1.getD j 0 else (j : Int)
theorem MadeInv.step {w wr wa : World} {l1 : List Int} {len1 k : Nat} {T T' x : Int} {L : List (Int × Int)} {v v' : Value} (h : MadeInv w wr l1 len1 k T L v) (ho : wa.ownsRow w.heap.size 28 2 v' (k + 1) (sampV L ++ [.int .i64 T', .int .i64 x])) (hb : Below w.heap.size w wa)
    (h1 : T < T') (h2 : 0 ≤ T) (h3 : T' ≤ 1099511627776) (h4 : In64 x) (hx : x = if k < len1 then l1.getD k 0 else (k : Int)) : MadeInv w wa l1 len1 (k + 1) T' (L ++ [(T', x)]) v' := by
  have hlen := h.len
  refine ⟨by rw [List.length_append, hlen]; rfl, ?_, hb, rise_snoc h.rise ⟨by show 0 ≤ T'; omega, h3⟩ (fun j hj => by have := h.upto j (by omega); show _ < T'; omega), fun s hs => ?_, fun j hj => ?_, fun j hj => ?_⟩
  · rw [sampV_append]
    exact ho
  · rw [List.mem_append, List.mem_singleton] at hs
    rcases hs with hs | rfl
    · exact h.bits s hs
    · exact ⟨by unfold In64; show _ ≤ T' ∧ T' ≤ _; omega, h4⟩
  · unfold tAt
    rcases Nat.lt_or_ge j k with hlt | hge
    · rw [getD_snoc_lt (by omega)]
      have := h.upto j hlt
      unfold tAt at this
      omega
    · obtain rfl : j = L.length := by omega
      rw [getD_snoc_eq]
      exact Int.le_refl _
  · rcases Nat.lt_or_ge j k with hlt | hge
    · rw [getD_snoc_lt (by omega)]
      exact h.vals j hlt
    · obtain rfl : j = L.length := by omega
      rw [getD_snoc_eq, hlen]
      exact hx

/-- What a call of Rise leaves. -/
def Makes (w : World) (l0 l1 : List Int) (len1 n : Nat) : Ending → World → Prop := fun e w' => ∃ v T, e = .returned v ∧ T ≤ 40 * (n : Int) ∧ MadeInv w w' l1 len1 n T (riL l0 l1 len1 n) v

set_option maxRecDepth 100000 in
set_option maxHeartbeats 1000000 in
theorem rise_any {a0 : Option Addr} {len0 cap0 : Nat} {l0 : List Int} {a1 : Option Addr} {len1 cap1 : Nat} {l1 : List Int} {w : World} (M : Nat) (hM : M ≤ 60) (s0 : Ints w a0 len0 cap0 l0) (s1 : Ints w a1 len1 cap1 l1) :
    Calls Tryd.prog 25 #[.slice a0 len0 cap0, .slice a1 len1 cap1, .int .i64 (M : Int)] w (Makes w l0 l1 len1 (min len0 M)) := by
  have S0 := Lib.hid s0
  have S1 := Lib.hid s1
  obtain ⟨_, _, _, hc0, hm0, _⟩ := s0
  obtain ⟨_, _, _, hc1, hm1, _⟩ := s1
  unfold maxLen at hm0 hm1
  obtain ⟨n, hn⟩ : ∃ n, min len0 M = n := ⟨_, rfl⟩
  rw [hn]
  have hn0 : n ≤ len0 := by omega
  have hnM : n ≤ M := by omega
  have HN := Lib.hid hn
  clear hn
  unfold Makes
  go_enter Tryd.func25, Tryd.ntmps25
  go_wp2
  go_loopw [7, 8, 9] (fun so st si wr => ∃ (k : Nat) (T : Int) (L : List (Int × Int)), k ≤ n ∧ si = .int .i64 (k : Int) ∧ st = .int .i64 T ∧ 0 ≤ T ∧ T ≤ 40 * (k : Int) ∧ Hid (MadeInv w wr l1 len1 k T L so) ∧ Hid (T = riT l0 k ∧ L = riL l0 l1 len1 k)) (fun _ _ si _ => n - (intOf si).toNat)
  case atStart => exact ⟨0, 0, [], by omega, rfl, rfl, by omega, by omega, Lib.hid ⟨rfl, World.ownsRow_nil _ _ _ _, Below.refl _ _, fun i hi => absurd hi (by simp), by intro s hs; simp at hs, fun j hj => absurd hj (by omega), fun j hj => absurd hj (by omega)⟩, Lib.hid ⟨rfl, rfl⟩⟩
  case round =>
    obtain ⟨k, T, L, hk, rfl, rfl, hT0, hT1, HI, HD⟩ := hrel
    by_cases hlt : k < n
    · obtain ⟨b, off, rfl, hcell⟩ := S0.out.2.2.1 (by omega)
      have c0 := hcell k (by omega)
      rw [← HI.out.below.cell (World.block_lt_of_cell? w _ c0)] at c0
      obtain ⟨st, hst⟩ : ∃ st, l0.getD k 0 = st := ⟨_, rfl⟩
      rw [hst] at c0
      clear hcell
      obtain ⟨U, hU⟩ : ∃ U, IntKind.u64.wrap st = U := ⟨_, rfl⟩
      obtain ⟨x, hx, hx0, hx1⟩ : ∃ x : Int, U.tmod 40 = x ∧ 0 ≤ x ∧ x < 40 := by
        have h0 : 0 ≤ U := by rw [← hU, IntKind.wrap_u64]; omega
        exact ⟨_, rfl, Int.tmod_nonneg 40 h0, Int.tmod_lt_of_pos _ (by decide)⟩
      have hxw : IntKind.i64.wrap x = x := by rw [IntKind.wrap_i64]; omega
      have hT1w : IntKind.i64.wrap (T + 1) = T + 1 := by rw [IntKind.wrap_i64]; omega
      obtain ⟨T', hT'⟩ : ∃ T', T + 1 + x = T' := ⟨_, rfl⟩
      have hT2w : IntKind.i64.wrap (T + 1 + x) = T' := by rw [IntKind.wrap_i64]; omega
      have hTT : T < T' ∧ T' ≤ 40 * ((k : Int) + 1) := by omega
      have i2 : (k : Int) < (len0 : Int) := by omega
      have i3 : (k : Int) < (M : Int) := by omega
      have HDT : Hid (T' = riT l0 (k + 1)) := Lib.hid (by rw [riT, hst, ← HD.out.1, hU, hx]; exact hT'.symm)
      clear hT' hst
      by_cases hv : k < len1
      · obtain ⟨b1, off1, rfl, hcell1⟩ := S1.out.2.2.1 (by omega)
        have c1 := hcell1 k (by omega)
        rw [← HI.out.below.cell (World.block_lt_of_cell? w _ c1)] at c1
        have hxi := S1.out.2.1 (l1.getD k 0) (by
          have hl := S1.out.1
          have e : l1.getD k 0 = l1[k] := by simp [show k < l1.length by omega]
          rw [e]; exact List.getElem_mem _)
        obtain ⟨y, hy⟩ : ∃ y, l1.getD k 0 = y := ⟨_, rfl⟩
        have HX : Hid (y = if k < len1 then l1.getD k 0 else (k : Int)) := Lib.hid (by rw [if_pos hv, hy])
        rw [hy] at c1 hxi
        have HXI := Lib.hid hxi
        clear hy
        have i4 : (k : Int) < (len1 : Int) := by omega
        clear hcell1 hxi
        obtain ⟨w9, hw9⟩ : ∃ w9, w9 = wr.alloc (.cells #[.int .i64 T', .int .i64 y] 28) := ⟨_, rfl⟩
        have hB9 : Below wr.heap.size wr w9 := by rw [hw9]; exact past_alloc (Below.refl _ _) _
        have O9 : Hid (w9.ownsRow w.heap.size 28 2 u7 k (sampV L)) := Lib.hid (own_below HI.out.own hB9)
        have N9 : Hid (∀ j u, ([.int .i64 T', .int .i64 y] : List Value)[j]? = some u → w9.cell? ((⟨wr.heap.size, 0, none⟩ : Addr).add j) = some u) := Lib.hid (by
          intro j u hj
          rw [addr_add, hw9]
          match j, hj with
          | 0, hj => simp at hj; subst hj; simp [go_sem]
          | 1, hj => simp at hj; subst hj; simp [go_sem])
        have Z9 : Hid (w.heap.size ≤ w9.heap.size) := Lib.hid (Nat.le_trans HI.out.below.size hB9.size)
        have BB : Hid (Below w.heap.size w w9) := Lib.hid (past HI.out.below hB9)
        have W9 := Lib.hid hw9
        clear hw9 hB9
        go_upto_region 10 with fail
        clear c0 c1
        obtain ⟨i0', hi, hz0, hz1, hz2⟩ := info_parts Tryd.info28
        go_wp2_with (at_builtin; rw [← W9.out]; refine wpList_append_lies _ rfl _ _ 23 rfl w.heap.size 28 i0' (.agg #[.int .i64 0, .int .i64 0]) 2 16 Tryd.underlying23 hi hz0 hz1 hz2 rfl (by decide) u7 k (sampV L) rfl O9.out ⟨wr.heap.size, 0, none⟩ 1 1 [.int .i64 T', .int .i64 y] rfl rfl N9.out (by simp [Value.oneCell']) (by decide) (by unfold maxLen; omega) (by omega) Z9.out _ rfl ?_)
        intro ga ca wa hown hgrow hat hltg
        have HNEW : Hid (MadeInv w wa l1 len1 (k + 1) T' (L ++ [(T', y)]) (.slice (some ⟨ga, 0, none⟩) (k + 1) ca)) := Lib.hid (HI.out.step hown (BB.out.grown hgrow Z9.out (fun k h => (O9.out.lt k h).1)) hTT.1 hT0 (by omega) HXI.out HX.out)
        clear hown hgrow hat hltg W9 O9 N9 Z9 BB
        go_wp2
        go_roundw
        case rel => exact ⟨k + 1, T', L ++ [(T', y)], by omega, by go_num, rfl, by omega, by omega, HNEW, Lib.hid ⟨HDT.out, by rw [riL, ← HD.out.2, ← HDT.out, riV, ← HX.out]⟩⟩
        case measure => simp [intOf]; omega
      · have HX : Hid ((k : Int) = if k < len1 then l1.getD k 0 else (k : Int)) := Lib.hid (by rw [if_neg hv])
        have i4 : ¬ (k : Int) < (len1 : Int) := by omega
        obtain ⟨w9, hw9⟩ : ∃ w9, w9 = wr.alloc (.cells #[.int .i64 T', .int .i64 (k : Int)] 28) := ⟨_, rfl⟩
        have hB9 : Below wr.heap.size wr w9 := by rw [hw9]; exact past_alloc (Below.refl _ _) _
        have O9 : Hid (w9.ownsRow w.heap.size 28 2 u7 k (sampV L)) := Lib.hid (own_below HI.out.own hB9)
        have N9 : Hid (∀ j u, ([.int .i64 T', .int .i64 (k : Int)] : List Value)[j]? = some u → w9.cell? ((⟨wr.heap.size, 0, none⟩ : Addr).add j) = some u) := Lib.hid (by
          intro j u hj
          rw [addr_add, hw9]
          match j, hj with
          | 0, hj => simp at hj; subst hj; simp [go_sem]
          | 1, hj => simp at hj; subst hj; simp [go_sem])
        have Z9 : Hid (w.heap.size ≤ w9.heap.size) := Lib.hid (Nat.le_trans HI.out.below.size hB9.size)
        have BB : Hid (Below w.heap.size w w9) := Lib.hid (past HI.out.below hB9)
        have W9 := Lib.hid hw9
        clear hw9 hB9
        go_upto_region 10 with fail
        clear c0
        obtain ⟨i0', hi, hz0, hz1, hz2⟩ := info_parts Tryd.info28
        go_wp2_with (at_builtin; rw [← W9.out]; refine wpList_append_lies _ rfl _ _ 23 rfl w.heap.size 28 i0' (.agg #[.int .i64 0, .int .i64 0]) 2 16 Tryd.underlying23 hi hz0 hz1 hz2 rfl (by decide) u7 k (sampV L) rfl O9.out ⟨wr.heap.size, 0, none⟩ 1 1 [.int .i64 T', .int .i64 (k : Int)] rfl rfl N9.out (by simp [Value.oneCell']) (by decide) (by unfold maxLen; omega) (by omega) Z9.out _ rfl ?_)
        intro ga ca wa hown hgrow hat hltg
        have HNEW : Hid (MadeInv w wa l1 len1 (k + 1) T' (L ++ [(T', (k : Int))]) (.slice (some ⟨ga, 0, none⟩) (k + 1) ca)) := Lib.hid (HI.out.step hown (BB.out.grown hgrow Z9.out (fun k h => (O9.out.lt k h).1)) hTT.1 hT0 (by omega) (by unfold In64; omega) HX.out)
        clear hown hgrow hat hltg W9 O9 N9 Z9 BB
        go_wp2
        go_roundw
        case rel => exact ⟨k + 1, T', L ++ [(T', (k : Int))], by omega, by go_num, rfl, by omega, by omega, HNEW, Lib.hid ⟨HDT.out, by rw [riL, ← HD.out.2, ← HDT.out, riV, ← HX.out]⟩⟩
        case measure => simp [intOf]; omega
    · obtain rfl : k = n := by omega
      by_cases hfin : k < len0
      · have i2 : (k : Int) < (len0 : Int) := by omega
        have i3 : ¬ (k : Int) < (M : Int) := by have := HN.out; omega
        go_wp2
        (try rw [Exit.noGoto_ret])
        go_ret
        exact ⟨u7, rfl, T, by omega, by rw [← HD.out.2]; exact HI.out⟩
      · have i2 : ¬ (k : Int) < (len0 : Int) := by omega
        go_wp2
        (try rw [Exit.noGoto_ret])
        go_ret
        exact ⟨u7, rfl, T, by omega, by rw [← HD.out.2]; exact HI.out⟩
end Go.Proofs.YtepancmkopifpaaDoor
