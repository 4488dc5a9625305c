/-
  The walk of LogTorn: it returns true, and writes nothing that was there.
-/
import Derived.Test.YtdpoahjgdndnhaaDoorLWalk
set_option maxRecDepth 100000
namespace Go.Proofs.YtdpoahjgdndnhaaDoor
open Go.RowKit
attribute [local go_sem ↓] Go.wp_at_zero Go.wp_at_succ
set_option linter.unusedVariables false

set_option maxHeartbeats 8000000 in
theorem walk_torn (HT : Hid ToldL) {A : Option Addr} {n ca : Nat} {l : List Int} (c : Int) {w : World} (h1 : Ints w A n ca l) (hw : Nam w) (h0 : 0 < w.heap.size) :
    Calls Tryd.prog 8 #[.slice A n ca, .int .i64 c] w fun e w' => e = .returned (.bool true) ∧ Below w.heap.size w w' := by
  have HX : Hid (Later w fun u => NB w u) := Lib.hid (fun u hu => ⟨hw.below h0 hu, Nat.lt_of_lt_of_le h0 hu.size, hu⟩)
  have M1 := Lib.hid (rows_any h1)
  obtain ⟨LA, hLA⟩ : ∃ LA, LA = rowsOf (l.map natI) := ⟨_, rfl⟩
  have hrf := rows_facts l
  rw [← hLA] at M1 hrf
  obtain ⟨na, hna⟩ : ∃ na, na = LA.length := ⟨_, rfl⟩
  unfold RowsPost at M1
  rw [← hna] at M1 hrf
  obtain ⟨hla, hmay⟩ := hrf
  have HNA := Lib.hid hna
  have HMAY := Lib.hid hmay
  have hbd := allB_bound hmay
  rw [← hna] at hbd
  clear h1 hw h0 hLA hna hmay
  go_enter Tryd.func8, Tryd.ntmps8
  go_wp2_with fail
  refine M1.out.mono ?_
  rintro en w2 ⟨A2, c2, rfl, hr, hb⟩
  have HX2 := Lib.hid (HX.out.on hb)
  have HA2 : Hid (Later w2 fun u => EntRow u A2 na c2 LA) := Lib.hid (fun u hu => hr.below hu)
  have hca := hr.le
  clear hr hb HX M1
  have M := Lib.hid (all_may HA2.out.now HMAY.out (by omega) HX2.out.now.nam HX2.out.now.pos)
  obtain ⟨N, hN⟩ : ∃ N, N = (allB LA).length := ⟨_, rfl⟩
  rw [← hN] at M hbd
  have HN := Lib.hid hN
  clear hN
  go_wp2_with fail
  refine M.out.mono ?_
  rintro en w3 ⟨V, cv, rfl, hr, hb, _⟩
  have HX3 := Lib.hid (HX2.out.on hb)
  have HA3 := Lib.hid (HA2.out.on hb)
  have HV3 : Hid (Later w3 fun u => BRow u V N cv (allB LA)) := Lib.hid (fun u hu => hr.below hu)
  have hcv := hr.le
  clear hr hb HX2 HA2 M
  obtain ⟨n1, hn1⟩ : ∃ n1, n1 = N + 1 := ⟨_, rfl⟩
  have j1 : IntKind.i64.wrap ((N : Int) + 1) = (n1 : Int) := by rw [IntKind.wrap_i64]; omega
  have j2 : IntKind.u64.wrap (n1 : Int) = (n1 : Int) := by rw [IntKind.wrap_u64]; omega
  obtain ⟨U, hU⟩ : ∃ U, IntKind.u64.wrap c = U := ⟨_, rfl⟩
  have hU0 : 0 ≤ U := by rw [← hU, IntKind.wrap_u64]; omega
  obtain ⟨y, hy, hy0, hy1⟩ : ∃ y : Int, U.tmod (n1 : Int) = y ∧ 0 ≤ y ∧ y < (n1 : Int) := ⟨_, rfl, Int.tmod_nonneg _ hU0, Int.tmod_lt_of_pos _ (by omega)⟩
  obtain ⟨k, rfl⟩ : ∃ k : Nat, y = (k : Int) := ⟨y.toNat, by omega⟩
  have j3 : IntKind.i64.wrap (k : Int) = (k : Int) := by rw [IntKind.wrap_i64]; omega
  have j4 : ¬ (n1 : Int) = 0 := by omega
  have hkn : k ≤ N := by omega
  clear hU0 hn1 hy0 hy1
  go_upto_region 6 with fail
  clear hy hU j1 j2 j3 j4
  obtain ⟨j, hj, e1, e2, e3⟩ := readN_torn LA 2000 k (fun e he => ⟨HMAY.out e he, entB_byte (HMAY.out e he).1⟩) (by rw [← HNA.out]; omega) (by rw [← HN.out]; exact hkn)
  rw [← HNA.out] at hj e3
  have hs := fun w => sliceB_hi (A := V) (n := N) (k := k) (cap := cv) (by omega) w
  have M := read_log (HV3.out.now.take hkn) (by omega) HX3.out.now.nam HX3.out.now.pos
  unfold readL at M
  rw [e1] at M
  unfold ReadLPost at M
  simp only at M
  have htl : (LA.take j).length = j := by rw [List.length_take, ← HNA.out]; omega
  rw [htl] at M
  have HM := Lib.hid M
  obtain ⟨P, hP⟩ : ∃ P, P = (allB (LA.take j)).length := ⟨_, rfl⟩
  rw [← hP] at HM e2
  have HP := Lib.hid hP
  have HTL := Lib.hid htl
  have HE3 : Hid (j < na → k < (allB (LA.take (j + 1))).length) := Lib.hid e3
  have HPN : Hid (j = na → P = N) := Lib.hid (fun e => by rw [hP, HN.out, List.take_of_length_le (by rw [← HNA.out]; omega)])
  have hPN : P ≤ N := by rw [hP, HN.out]; exact allB_take LA j
  clear M e1 e3 htl hP
  go_wp2_with fail
  refine HM.out.mono ?_
  rintro en w4 ⟨M4, c4, rfl, hr, hb⟩
  have HX4 := Lib.hid (HX3.out.on hb)
  have HA4 := Lib.hid (HA3.out.on hb)
  have HM4 : Hid (Later w4 fun u => EntRow u M4 j c4 (LA.take j)) := Lib.hid (fun u hu => hr.below hu)
  clear hr hb HX3 HA3 HV3 HM hs
  have i1 : ¬ (P : Int) > (k : Int) := by omega
  have i2 : ¬ (j : Int) > (na : Int) := by omega
  have i3 : decide ((P : Int) > (k : Int)) = false := decide_eq_false i1
  have i4 : decide ((j : Int) > (na : Int)) = false := decide_eq_false i2
  have M := front_any HM4.out.now HA4.out.now
  rw [meet_take, Nat.min_eq_left (by rw [← HNA.out]; exact hj), decide_eq_true rfl] at M
  have HM := Lib.hid M
  clear M
  go_wp2_with fail
  refine HM.out.mono ?_
  rintro en w5 ⟨rfl, hb⟩
  have HX5 := Lib.hid (HX4.out.on hb)
  have HA5 := Lib.hid (HA4.out.on hb)
  clear hb HX4 HA4 HM4 HM i1 i2 i3 i4
  have hs := fun w => sliceE_hi (A := A2) (n := na) (k := j) (cap := c2) (by omega) w
  have M := all_may (HA5.out.now.take hj) (may_take HMAY.out j) (by omega) HX5.out.now.nam HX5.out.now.pos
  rw [← HP.out] at M
  have HM := Lib.hid M
  clear M
  go_wp2_with fail
  refine HM.out.mono ?_
  rintro en w6 ⟨V6, c6, rfl, hr, hb, _⟩
  have HX6 := Lib.hid (HX5.out.on hb)
  have HA6 := Lib.hid (HA5.out.on hb)
  clear hr hb HX5 HA5 HM hs
  have i1 : ((P : Int) != (P : Int)) = false := by simp
  by_cases hjn : j < na
  · have i2 : (j : Int) < (na : Int) := by omega
    have i0 : (0 : Int) ≤ (j : Int) := by omega
    obtain ⟨e, he⟩ : ∃ e, LA.getD j Ent.zero = e := ⟨_, rfl⟩
    have hem := may_at HMAY.out (j := j) (by rw [← HNA.out]; exact hjn)
    rw [he] at hem
    have hlt := HE3.out hjn
    rw [allB_snoc (by rw [← HNA.out]; exact hjn), he, List.length_append, ← HP.out] at hlt
    have hle := allB_take LA (j + 1)
    rw [allB_snoc (by rw [← HNA.out]; exact hjn), he, List.length_append, ← HP.out, ← HN.out] at hle
    obtain ⟨x, off, hA, _, hcs⟩ := HA6.out.now.cells (by omega)
    obtain ⟨c0, c1, c2_, c3, c4_, c5, c6_, c7⟩ := hcs j hjn
    rw [he] at c0 c1 c2_ c3 c4_ c5 c6_ c7
    subst hA
    unfold str at c7
    have M := frame_ent e w6 hem.2 HX6.out.now.nam HX6.out.now.pos
    rw [frame_ok hem.1] at M
    unfold PutEPost Ent.val str at M
    simp only at M
    obtain ⟨F, hF⟩ : ∃ F, F = (frm e.bytes).length := ⟨_, rfl⟩
    rw [← hF] at M hlt hle
    have HM := Lib.hid M
    have j1 : IntKind.i64.wrap ((P : Int) + (F : Int)) = ((P : Int) + (F : Int)) := by rw [IntKind.wrap_i64]; omega
    have j2 : (P : Int) + (F : Int) > (k : Int) := by omega
    have j3 : decide ((P : Int) + (F : Int) > (k : Int)) = true := decide_eq_true j2
    clear M he hF hcs hem
    go_wp2_with fail
    refine HM.out.mono ?_
    rintro en w7 ⟨V7, c7_, rfl, hr, hb, _⟩
    have HX7 := Lib.hid (HX6.out.on hb)
    clear hr hb HX6 HA6 HM c0 c1 c2_ c3 c4_ c5 c6_ c7
    go_wp2_with fail
    refine (HT.out _ HX7.out.now.nam HX7.out.now.pos).mono ?_
    rintro en w8 ⟨rfl, hb⟩
    have HB := Lib.hid (past HX7.out.now.below hb)
    clear hb HX7
    go_wp2
    go_ret
    exact ⟨rfl, HB.out⟩
  · obtain rfl : j = na := by omega
    obtain rfl : P = N := HPN.out rfl
    have i2 : ¬ (j : Int) < (j : Int) := by omega
    go_wp2_with fail
    refine (HT.out _ HX6.out.now.nam HX6.out.now.pos).mono ?_
    rintro en w8 ⟨rfl, hb⟩
    have HB := Lib.hid (past HX6.out.now.below hb)
    clear hb HX6
    go_wp2
    go_ret
    exact ⟨rfl, HB.out⟩
end Go.Proofs.YtdpoahjgdndnhaaDoor
