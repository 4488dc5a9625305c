/-
  The walk of LogMeets: it returns true, and writes nothing that was there.
-/
import Derived.Test.YtdpoahjgdndnhaaDoorLMeet
import Derived.Test.YtdpoahjgdndnhaaDoorERowsW
set_option maxRecDepth 100000
namespace Go.Proofs.YtdpoahjgdndnhaaDoor
open Go.RowKit
attribute [local go_sem ↓] Go.wp_at_zero Go.wp_at_succ
set_option linter.unusedVariables false

def ToldL : Prop := ∀ w : World, Nam w → 0 < w.heap.size → Calls Tryd.prog 29 #[] w fun e w' => e = .returned (.bool true) ∧ Below w.heap.size w w'
/-- What is carried along. -/
structure NB (w u : World) : Prop where
  nam : Nam u
  pos : 0 < u.heap.size
  below : Below w.heap.size w u
set_option maxHeartbeats 8000000 in
theorem walk_meets (HT : Hid ToldL) {A B : Option Addr} {n m ca cb : Nat} {l l2 : List Int} (c : Int) {w : World} (h1 : Ints w A n ca l) (h2 : Ints w B m cb l2) (hw : Nam w) (h0 : 0 < w.heap.size) :
    Calls Tryd.prog 10 #[.slice A n ca, .slice B m cb, .int .i64 c] w fun e w' => e = .returned (.bool true) ∧ Below w.heap.size w w' := by
  have HX : Hid (Later w fun u => NB w u) := Lib.hid (fun u hu => ⟨hw.below h0 hu, Nat.lt_of_lt_of_le h0 hu.size, hu⟩)
  have H1 : Hid (Later w fun u => Ints u A n ca l ∧ Ints u B m cb l2) := Lib.hid (fun u hu => ⟨h1.below hu, h2.below hu⟩)
  clear h1 h2 hw h0
  go_enter Tryd.func10, Tryd.ntmps10
  have M1 := Lib.hid (rows_any H1.out.now.1)
  go_wp2_with fail
  refine M1.out.mono ?_
  rintro en w2 ⟨A2, c2, rfl, hr, hb⟩
  have HX2 := Lib.hid (HX.out.on hb)
  have H2 := Lib.hid (H1.out.on hb)
  obtain ⟨LA, hLA⟩ : ∃ LA, LA = rowsOf (l.map natI) := ⟨_, rfl⟩
  have hla : LA.length ≤ 40 := by rw [hLA]; have := (rows_good (l.map natI)).len; unfold rowsOf; rw [this]; omega
  rw [← hLA] at hr ⊢
  obtain ⟨na, hna⟩ : ∃ na, na = LA.length := ⟨_, rfl⟩
  rw [← hna] at hr hla ⊢
  have HNA := Lib.hid hna
  have HA2 : Hid (Later w2 fun u => EntRow u A2 na c2 LA) := Lib.hid (fun u hu => hr.below hu)
  have hca := hr.le
  clear hr hb HX H1 hLA hna M1
  have M1 := Lib.hid (rows_any H2.out.now.2)
  go_wp2_with fail
  refine M1.out.mono ?_
  rintro en w3 ⟨B2, d2, rfl, hr, hb⟩
  have HX3 := Lib.hid (HX2.out.on hb)
  have HA3 := Lib.hid (HA2.out.on hb)
  obtain ⟨LB, hLB⟩ : ∃ LB, LB = rowsOf (l2.map natI) := ⟨_, rfl⟩
  have hlb : LB.length ≤ 40 := by rw [hLB]; have := (rows_good (l2.map natI)).len; unfold rowsOf; rw [this]; omega
  rw [← hLB] at hr ⊢
  obtain ⟨nb, hnb⟩ : ∃ nb, nb = LB.length := ⟨_, rfl⟩
  rw [← hnb] at hr hlb ⊢
  have HNB := Lib.hid hnb
  have HB3 : Hid (Later w3 fun u => EntRow u B2 nb d2 LB) := Lib.hid (fun u hu => hr.below hu)
  clear hr hb HX2 H2 HA2 hLB hnb M1
  have M1 := Lib.hid (meet_any HA3.out.now HB3.out.now)
  obtain ⟨q, hq⟩ : ∃ q, q = meet LA LB := ⟨_, rfl⟩
  rw [← hq] at M1
  have hle := meet_le LA LB
  rw [← hq, ← HNA.out, ← HNB.out] at hle
  have HQ := Lib.hid hq
  clear hq
  go_wp2_with fail
  refine M1.out.mono ?_
  rintro en w4 ⟨rfl, hb⟩
  have HX4 := Lib.hid (HX3.out.on hb)
  have HA4 := Lib.hid (HA3.out.on hb)
  have HB4 := Lib.hid (HB3.out.on hb)
  clear hb HX3 HA3 HB3 M1
  go_upto_region 3 with fail
  have i1 : ¬ (q : Int) > (na : Int) := by omega
  have i2 : ¬ (q : Int) > (nb : Int) := by omega
  have i3 : decide ((q : Int) > (na : Int)) = false := decide_eq_false i1
  have i4 : decide ((q : Int) > (nb : Int)) = false := decide_eq_false i2
  have i5 : ((q : Int) != (q : Int)) = false := by simp
  have i0 : (0 : Int) ≤ (q : Int) := by omega
  have hsq := fun w => sliceE_hi (A := A2) (n := na) (k := q) (cap := c2) (by omega) w
  have HF : Hid (∀ u : SubB w4, Calls Tryd.prog 34 #[.slice A2 q c2, .slice B2 nb d2] u.w fun e w' => e = .returned (.bool true) ∧ Below u.w.heap.size u.w w') := Lib.hid (fun u => by
    have h := front_any ((HA4.out u.w u.le).take (show q ≤ na by omega)) (HB4.out u.w u.le)
    rw [HQ.out, meet_front, decide_eq_true rfl, ← HQ.out] at h
    exact h)
  have HM : Hid (∀ u : SubB w4, Calls Tryd.prog 36 #[.slice B2 nb d2, .slice A2 na c2] u.w fun e w' => e = .returned (.int .i64 (q : Int)) ∧ Below u.w.heap.size u.w w') := Lib.hid (fun u => by
    have h := meet_any (HB4.out u.w u.le) (HA4.out u.w u.le)
    rw [meet_comm, ← HQ.out] at h
    exact h)
  by_cases ha : q < na
  case neg =>
    obtain rfl : q = na := by omega
    have k1 : ¬ (q : Int) < (q : Int) := by omega
    refine wp_region_calm (by kernel_rfl) (by kernel_rfl) ?_
    (try simp only [List.append])
    repeat (go_big_quiet_step (first | (go_at_call 34; exact calm_call (HF.out _)) | (go_at_call 36; exact calm_call (HM.out _))))
    refine wpQuiet_nil ?_
    rintro _ ⟨u, rfl⟩
    have HX5 := Lib.hid (HX4.out.on u.le)
    have HA5 := Lib.hid (HA4.out.on u.le)
    have HB5 := Lib.hid (HB4.out.on u.le)
    clear HX4 HA4 HB4 HF HM hsq 
    generalize u.w = w5 at *
    obtain ⟨n1, hn1⟩ : ∃ n1, n1 = q + 1 := ⟨_, rfl⟩
    have j1 : IntKind.i64.wrap ((q : Int) + 1) = (n1 : Int) := by rw [IntKind.wrap_i64]; omega
    have j2 : IntKind.u64.wrap (n1 : Int) = (n1 : Int) := by rw [IntKind.wrap_u64]; omega
    obtain ⟨U, hU⟩ : ∃ U, IntKind.u64.wrap c = U := ⟨_, rfl⟩
    have hU0 : 0 ≤ U := by rw [← hU, IntKind.wrap_u64]; omega
    obtain ⟨y, hy, hy0, hy1⟩ : ∃ y : Int, U.tmod (n1 : Int) = y ∧ 0 ≤ y ∧ y < (n1 : Int) := ⟨_, rfl, Int.tmod_nonneg _ hU0, Int.tmod_lt_of_pos _ (by omega)⟩
    obtain ⟨k, rfl⟩ : ∃ k : Nat, y = (k : Int) := ⟨y.toNat, by omega⟩
    have j3 : IntKind.i64.wrap (k : Int) = (k : Int) := by rw [IntKind.wrap_i64]; omega
    have j4 : ¬ (n1 : Int) = 0 := by omega
    have hkn : k ≤ q := by omega
    clear hU0 hn1 hy0 hy1
    go_upto_region 6 with fail
    have hca2 := HA5.out.now.le
    have hsk := fun w => sliceE_hi (A := A2) (n := q) (k := k) (cap := c2) (by omega) w
    have HF2 : Hid (∀ u, Below w5.heap.size w5 u → Calls Tryd.prog 34 #[.slice A2 k c2, .slice A2 q c2] u fun e w' => e = .returned (.bool true) ∧ Below u.heap.size u w') := Lib.hid (fun u hu => by
      have h := front_any ((HA5.out u hu).take hkn) (HA5.out u hu)
      rw [meet_take, Nat.min_eq_left (by rw [← HNA.out]; exact hkn), decide_eq_true rfl] at h
      exact h)
    have HM2 : Hid (∀ u, Below w5.heap.size w5 u → Calls Tryd.prog 36 #[.slice A2 k c2, .slice A2 q c2] u fun e w' => e = .returned (.int .i64 (k : Int)) ∧ Below u.heap.size u w') := Lib.hid (fun u hu => by
      have h := meet_any ((HA5.out u hu).take hkn) (HA5.out u hu)
      rw [meet_take, Nat.min_eq_left (by rw [← HNA.out]; exact hkn)] at h
      exact h)
    have HF3 : Hid (∀ u, Below w5.heap.size w5 u → Calls Tryd.prog 34 #[.slice A2 q c2, .slice B2 nb d2] u fun e w' => e = .returned (.bool true) ∧ Below u.heap.size u w') := Lib.hid (fun u hu => by
      have h := front_any (HA5.out u hu) (HB5.out u hu)
      rw [← HQ.out, decide_eq_true rfl] at h
      exact h)
    have HTT : Hid (∀ u, Below w5.heap.size w5 u → Calls Tryd.prog 29 #[] u fun e w' => e = .returned (.bool true) ∧ Below u.heap.size u w') := Lib.hid (fun u hu => HT.out u (HX5.out u hu).nam (HX5.out u hu).pos)
    have HBB : Hid (Below w.heap.size w w5) := Lib.hid HX5.out.now.below
    clear HX5 HA5 HB5 hca2 hy hU j1 j2 j3 j4
    go_wp2_with fail
    refine (HTT.out _ (Below.refl _ _)).mono ?_
    rintro en w6 ⟨rfl, hb6⟩
    have HB6 := Lib.hid hb6
    clear hb6
    go_wp2_with fail
    refine (HF2.out _ HB6.out).mono ?_
    rintro en w7 ⟨rfl, hb7⟩
    have HB7 := Lib.hid (past HB6.out hb7)
    clear hb7 HB6
    go_wp2_with fail
    refine (HM2.out _ HB7.out).mono ?_
    rintro en w8 ⟨rfl, hb8⟩
    have HB8 := Lib.hid (past HB7.out hb8)
    clear hb8 HB7
    go_wp2_with fail
    refine (HF3.out _ HB8.out).mono ?_
    rintro en w9 ⟨rfl, hb9⟩
    have HB9 := Lib.hid (past HBB.out (past HB8.out hb9))
    clear hb9 HB8
    go_wp2
    go_ret
    exact ⟨rfl, HB9.out⟩
  have k1 : (q : Int) < (na : Int) := by omega
  have qa : ((q : Int) == (na : Int)) = false := by simp; omega
  have qa' : ¬ (q : Int) = (na : Int) := by omega
  by_cases hb : q < nb
  case neg =>
    have k2 : ¬ (q : Int) < (nb : Int) := by omega
    refine wp_region_calm (by kernel_rfl) (by kernel_rfl) ?_
    (try simp only [List.append])
    repeat (go_big_quiet_step (first | (go_at_call 34; exact calm_call (HF.out _)) | (go_at_call 36; exact calm_call (HM.out _))))
    refine wpQuiet_nil ?_
    rintro _ ⟨u, rfl⟩
    have HX5 := Lib.hid (HX4.out.on u.le)
    have HA5 := Lib.hid (HA4.out.on u.le)
    have HB5 := Lib.hid (HB4.out.on u.le)
    clear HX4 HA4 HB4 HF HM hsq 
    generalize u.w = w5 at *
    obtain ⟨n1, hn1⟩ : ∃ n1, n1 = na + 1 := ⟨_, rfl⟩
    have j1 : IntKind.i64.wrap ((na : Int) + 1) = (n1 : Int) := by rw [IntKind.wrap_i64]; omega
    have j2 : IntKind.u64.wrap (n1 : Int) = (n1 : Int) := by rw [IntKind.wrap_u64]; omega
    obtain ⟨U, hU⟩ : ∃ U, IntKind.u64.wrap c = U := ⟨_, rfl⟩
    have hU0 : 0 ≤ U := by rw [← hU, IntKind.wrap_u64]; omega
    obtain ⟨y, hy, hy0, hy1⟩ : ∃ y : Int, U.tmod (n1 : Int) = y ∧ 0 ≤ y ∧ y < (n1 : Int) := ⟨_, rfl, Int.tmod_nonneg _ hU0, Int.tmod_lt_of_pos _ (by omega)⟩
    obtain ⟨k, rfl⟩ : ∃ k : Nat, y = (k : Int) := ⟨y.toNat, by omega⟩
    have j3 : IntKind.i64.wrap (k : Int) = (k : Int) := by rw [IntKind.wrap_i64]; omega
    have j4 : ¬ (n1 : Int) = 0 := by omega
    have hkn : k ≤ na := by omega
    clear hU0 hn1 hy0 hy1
    go_upto_region 6 with fail
    have hca2 := HA5.out.now.le
    have hsk := fun w => sliceE_hi (A := A2) (n := na) (k := k) (cap := c2) (by omega) w
    have HF2 : Hid (∀ u, Below w5.heap.size w5 u → Calls Tryd.prog 34 #[.slice A2 k c2, .slice A2 na c2] u fun e w' => e = .returned (.bool true) ∧ Below u.heap.size u w') := Lib.hid (fun u hu => by
      have h := front_any ((HA5.out u hu).take hkn) (HA5.out u hu)
      rw [meet_take, Nat.min_eq_left (by rw [← HNA.out]; exact hkn), decide_eq_true rfl] at h
      exact h)
    have HM2 : Hid (∀ u, Below w5.heap.size w5 u → Calls Tryd.prog 36 #[.slice A2 k c2, .slice A2 na c2] u fun e w' => e = .returned (.int .i64 (k : Int)) ∧ Below u.heap.size u w') := Lib.hid (fun u hu => by
      have h := meet_any ((HA5.out u hu).take hkn) (HA5.out u hu)
      rw [meet_take, Nat.min_eq_left (by rw [← HNA.out]; exact hkn)] at h
      exact h)
    have HF3 : Hid (∀ u, Below w5.heap.size w5 u → Calls Tryd.prog 34 #[.slice A2 na c2, .slice B2 nb d2] u fun e w' => e = .returned (.bool false) ∧ Below u.heap.size u w') := Lib.hid (fun u hu => by
      have h := front_any (HA5.out u hu) (HB5.out u hu)
      rw [← HQ.out, decide_eq_false (show ¬ q = na by omega)] at h
      exact h)
    have HTT : Hid (∀ u, Below w5.heap.size w5 u → Calls Tryd.prog 29 #[] u fun e w' => e = .returned (.bool true) ∧ Below u.heap.size u w') := Lib.hid (fun u hu => HT.out u (HX5.out u hu).nam (HX5.out u hu).pos)
    have HBB : Hid (Below w.heap.size w w5) := Lib.hid HX5.out.now.below
    clear HX5 HA5 HB5 hca2 hy hU j1 j2 j3 j4
    go_wp2_with fail
    refine (HTT.out _ (Below.refl _ _)).mono ?_
    rintro en w6 ⟨rfl, hb6⟩
    have HB6 := Lib.hid hb6
    clear hb6
    go_wp2_with fail
    refine (HF2.out _ HB6.out).mono ?_
    rintro en w7 ⟨rfl, hb7⟩
    have HB7 := Lib.hid (past HB6.out hb7)
    clear hb7 HB6
    go_wp2_with fail
    refine (HM2.out _ HB7.out).mono ?_
    rintro en w8 ⟨rfl, hb8⟩
    have HB8 := Lib.hid (past HB7.out hb8)
    clear hb8 HB7
    go_wp2_with fail
    refine (HF3.out _ HB8.out).mono ?_
    rintro en w9 ⟨rfl, hb9⟩
    have HB9 := Lib.hid (past HBB.out (past HB8.out hb9))
    clear hb9 HB8
    go_wp2
    go_ret
    exact ⟨rfl, HB9.out⟩
  have k2 : (q : Int) < (nb : Int) := by omega
  obtain ⟨a, haa⟩ : ∃ a, LA.getD q Ent.zero = a := ⟨_, rfl⟩
  obtain ⟨d, hdd⟩ : ∃ d, LB.getD q Ent.zero = d := ⟨_, rfl⟩
  have hne : a ≠ d := by
    rw [← haa, ← hdd, HQ.out]
    exact meet_next (by rw [← HQ.out, ← HNA.out]; exact ha) (by rw [← HQ.out, ← HNB.out]; exact hb)
  obtain ⟨x, off, rfl, c0, c1, c2_, c3, c4, c5, c6, c7⟩ := ent_at HA4.out.now ha haa
  obtain ⟨x2, off2, rfl, e0, e1, e2, e3, e4, e5, e6, e7⟩ := ent_at HB4.out.now hb hdd
  have hq := ent_eql a d
  rw [decide_eq_false hne] at hq
  unfold Ent.val str at hq
  clear haa hdd hne
  refine wp_region_calm (by kernel_rfl) (by kernel_rfl) ?_
  (try simp only [List.append])
  repeat (go_big_quiet_step (first | (go_at_call 34; exact calm_call (HF.out _)) | (go_at_call 36; exact calm_call (HM.out _))))
  refine wpQuiet_nil ?_
  rintro _ ⟨u, rfl⟩
  have HX5 := Lib.hid (HX4.out.on u.le)
  have HA5 := Lib.hid (HA4.out.on u.le)
  have HB5 := Lib.hid (HB4.out.on u.le)
  clear HX4 HA4 HB4 HF HM hsq c0 c1 c2_ c3 c4 c5 c6 c7 e0 e1 e2 e3 e4 e5 e6 e7 hq
  generalize u.w = w5 at *
  obtain ⟨n1, hn1⟩ : ∃ n1, n1 = na + 1 := ⟨_, rfl⟩
  have j1 : IntKind.i64.wrap ((na : Int) + 1) = (n1 : Int) := by rw [IntKind.wrap_i64]; omega
  have j2 : IntKind.u64.wrap (n1 : Int) = (n1 : Int) := by rw [IntKind.wrap_u64]; omega
  obtain ⟨U, hU⟩ : ∃ U, IntKind.u64.wrap c = U := ⟨_, rfl⟩
  have hU0 : 0 ≤ U := by rw [← hU, IntKind.wrap_u64]; omega
  obtain ⟨y, hy, hy0, hy1⟩ : ∃ y : Int, U.tmod (n1 : Int) = y ∧ 0 ≤ y ∧ y < (n1 : Int) := ⟨_, rfl, Int.tmod_nonneg _ hU0, Int.tmod_lt_of_pos _ (by omega)⟩
  obtain ⟨k, rfl⟩ : ∃ k : Nat, y = (k : Int) := ⟨y.toNat, by omega⟩
  have j3 : IntKind.i64.wrap (k : Int) = (k : Int) := by rw [IntKind.wrap_i64]; omega
  have j4 : ¬ (n1 : Int) = 0 := by omega
  have hkn : k ≤ na := by omega
  clear hU0 hn1 hy0 hy1
  go_upto_region 6 with fail
  have hca2 := HA5.out.now.le
  have hsk := fun w => sliceE_hi (A := (some ⟨x, off, none⟩)) (n := na) (k := k) (cap := c2) (by omega) w
  have HF2 : Hid (∀ u, Below w5.heap.size w5 u → Calls Tryd.prog 34 #[.slice (some ⟨x, off, none⟩) k c2, .slice (some ⟨x, off, none⟩) na c2] u fun e w' => e = .returned (.bool true) ∧ Below u.heap.size u w') := Lib.hid (fun u hu => by
    have h := front_any ((HA5.out u hu).take hkn) (HA5.out u hu)
    rw [meet_take, Nat.min_eq_left (by rw [← HNA.out]; exact hkn), decide_eq_true rfl] at h
    exact h)
  have HM2 : Hid (∀ u, Below w5.heap.size w5 u → Calls Tryd.prog 36 #[.slice (some ⟨x, off, none⟩) k c2, .slice (some ⟨x, off, none⟩) na c2] u fun e w' => e = .returned (.int .i64 (k : Int)) ∧ Below u.heap.size u w') := Lib.hid (fun u hu => by
    have h := meet_any ((HA5.out u hu).take hkn) (HA5.out u hu)
    rw [meet_take, Nat.min_eq_left (by rw [← HNA.out]; exact hkn)] at h
    exact h)
  have HF3 : Hid (∀ u, Below w5.heap.size w5 u → Calls Tryd.prog 34 #[.slice (some ⟨x, off, none⟩) na c2, .slice (some ⟨x2, off2, none⟩) nb d2] u fun e w' => e = .returned (.bool false) ∧ Below u.heap.size u w') := Lib.hid (fun u hu => by
    have h := front_any (HA5.out u hu) (HB5.out u hu)
    rw [← HQ.out, decide_eq_false (show ¬ q = na by omega)] at h
    exact h)
  have HTT : Hid (∀ u, Below w5.heap.size w5 u → Calls Tryd.prog 29 #[] u fun e w' => e = .returned (.bool true) ∧ Below u.heap.size u w') := Lib.hid (fun u hu => HT.out u (HX5.out u hu).nam (HX5.out u hu).pos)
  have HBB : Hid (Below w.heap.size w w5) := Lib.hid HX5.out.now.below
  clear HX5 HA5 HB5 hca2 hy hU j1 j2 j3 j4
  go_wp2_with fail
  refine (HTT.out _ (Below.refl _ _)).mono ?_
  rintro en w6 ⟨rfl, hb6⟩
  have HB6 := Lib.hid hb6
  clear hb6
  go_wp2_with fail
  refine (HF2.out _ HB6.out).mono ?_
  rintro en w7 ⟨rfl, hb7⟩
  have HB7 := Lib.hid (past HB6.out hb7)
  clear hb7 HB6
  go_wp2_with fail
  refine (HM2.out _ HB7.out).mono ?_
  rintro en w8 ⟨rfl, hb8⟩
  have HB8 := Lib.hid (past HB7.out hb8)
  clear hb8 HB7
  go_wp2_with fail
  refine (HF3.out _ HB8.out).mono ?_
  rintro en w9 ⟨rfl, hb9⟩
  have HB9 := Lib.hid (past HBB.out (past HB8.out hb9))
  clear hb9 HB8
  go_wp2
  go_ret
  exact ⟨rfl, HB9.out⟩
end Go.Proofs.YtdpoahjgdndnhaaDoor
