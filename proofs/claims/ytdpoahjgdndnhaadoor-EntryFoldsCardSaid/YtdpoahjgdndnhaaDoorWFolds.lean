/-
  The walk of EntryFolds: it returns true, and writes nothing that was there.
-/
import Derived.Test.YtdpoahjgdndnhaaDoorWTwice
import Derived.Test.YtdpoahjgdndnhaaDoorDFold
set_option maxRecDepth 100000
namespace Go.Proofs.YtdpoahjgdndnhaaDoor
open Go.RowKit
attribute [local go_sem ↓] Go.wp_at_zero Go.wp_at_succ
set_option linter.unusedVariables false

theorem may_text {e : Ent} (h : e.may) : e.tx.length ≤ 300 := by
  obtain ⟨_, ho, hs⟩ := h
  unfold Ent.says at hs
  unfold Ent.own at ho
  split at hs
  · next h1 => rw [if_pos h1] at ho; rw [ho]; simp
  · next h1 =>
    split at hs
    · next h2 => rw [if_neg h1, if_pos h2] at ho; rw [ho]; simp
    · next h2 =>
      split at hs
      · next h3 => rw [if_neg h1, if_neg h2, if_neg (by omega)] at ho; rw [ho]; simp
      · next h3 =>
        split at hs
        · exact hs.1
        · exact hs.elim
theorem fold_zero {l : List Ent} (h : (foldOn Man.zero l).2 = 0) : fold l = ((foldOn Man.zero l).1.th, (foldOn Man.zero l).1.ru, (foldOn Man.zero l).1.vw, 0) := by
  unfold fold
  rw [if_pos h]
theorem foldOn_good : ∀ (l : List Ent) (m : Man) (n : Nat), m.Good n → (∀ e ∈ l, e.ok) → (foldOn m l).2 = 0 → (foldOn m l).1.Good (n + l.length)
  | [], m, n, h, _, _ => h
  | e :: r, m, n, h, ho, hc => by
    unfold foldOn at hc ⊢
    by_cases hf : m.fault e = 0
    · rw [if_pos hf] at hc ⊢
      have := foldOn_good r (m.take e) (n + 1) (h.take (ho e (by simp)) hf) (fun d hd => ho d (by simp [hd])) hc
      rw [List.length_cons, show n + (r.length + 1) = n + 1 + r.length by omega]
      exact this
    · rw [if_neg hf] at hc
      exact absurd hc hf
theorem fold_front {l : List Ent} (k : Nat) (h : (foldOn Man.zero l).2 = 0) : (foldOn Man.zero (l.take k)).2 = 0 :=
  foldOn_front _ (l.drop k) _ (by rw [List.take_append_drop]; exact h)
theorem asc_at {l : List Inf} (h : (l.map Inf.id).Pairwise (· < ·)) {k : Nat} (hk : k + 1 < l.length) : (l.getD k Inf.zero).id < (l.getD (k + 1) Inf.zero).id := by
  have h1 := List.pairwise_iff_getElem.1 h k (k + 1) (by simp; omega) (by simpa using hk) (by omega)
  rw [List.getD_eq_getElem?_getD, List.getD_eq_getElem?_getD, List.getElem?_eq_getElem hk, List.getElem?_eq_getElem (by omega)]
  simpa using h1
set_option maxHeartbeats 8000000 in
theorem walk_folds {A : Option Addr} {n ca : Nat} {l : List Int} (c : Int) {w : World} (h1 : Ints w A n ca l) (hw : Nam w) (h0 : 0 < w.heap.size) :
    Calls Tryd.prog 4 #[.slice A n ca, .int .i64 c] w fun e w' => e = .returned (.bool true) ∧ Below w.heap.size w w' := by
  have HX : Hid (Later w fun u => NB9 w u) := Lib.hid (fun u hu => ⟨hw.below h0 hu, Nat.lt_of_lt_of_le h0 hu.size, hu⟩)
  have M1 := Lib.hid (rows_any h1)
  obtain ⟨LA, hLA⟩ : ∃ LA, LA = rowsOf (l.map natI) := ⟨_, rfl⟩
  have hrf := rows_facts9 l
  rw [← hLA] at M1 hrf
  obtain ⟨na, hna⟩ : ∃ na, na = LA.length := ⟨_, rfl⟩
  unfold RowsPost at M1
  rw [← hna] at M1 hrf
  obtain ⟨hla, hmay, hcode, _, _⟩ := hrf
  have HNA := Lib.hid hna
  have HMAY := Lib.hid hmay
  have HCODE := Lib.hid hcode
  have HGD : Hid ((foldOn Man.zero LA).1.Good na) := Lib.hid (by
    have := foldOn_good LA Man.zero 0 Man.Good.zero (fun e he => (hmay e he).2) hcode
    rw [Nat.zero_add, ← hna] at this
    exact this)
  clear h1 hw h0 hLA hna hmay hcode
  obtain ⟨U, hU⟩ : ∃ U, IntKind.u64.wrap c = U := ⟨_, rfl⟩
  have hU0 : 0 ≤ U := by rw [← hU, IntKind.wrap_u64]; omega
  obtain ⟨y, hy, hy0, hy1⟩ : ∃ y : Int, U.tmod ((na : Int) + 1) = y ∧ 0 ≤ y ∧ y < (na : Int) + 1 := ⟨_, rfl, Int.tmod_nonneg _ hU0, Int.tmod_lt_of_pos _ (by omega)⟩
  have hy' : U % ((na : Int) + 1) = y := by rw [← hy, Int.tmod_eq_emod_of_nonneg hU0]
  obtain ⟨k, rfl⟩ : ∃ k : Nat, y = (k : Int) := ⟨y.toNat, by omega⟩
  have hk : k ≤ na := by omega
  have HK := Lib.hid hk
  have j1 : IntKind.i64.wrap (k : Int) = (k : Int) := by rw [IntKind.wrap_i64]; omega
  have j2 : IntKind.i64.wrap ((na : Int) + 1) = (na : Int) + 1 := by rw [IntKind.wrap_i64]; omega
  have j3 : IntKind.u64.wrap ((na : Int) + 1) = (na : Int) + 1 := by rw [IntKind.wrap_u64]; omega
  have j4 : ¬ (na : Int) + 1 = 0 := by omega
  have j5 : ((na : Int) + 1 == 0) = false := by simp; omega
  clear hU0 hy0 hy1
  go_enter Tryd.func4, Tryd.ntmps4
  go_wp2_with fail
  refine M1.out.mono ?_
  rintro en w2 ⟨A2, c2, rfl, hr, hb⟩
  have HX2 := Lib.hid (HX.out.on hb)
  have HA2 : Hid (Later w2 fun u => EntRow u A2 na c2 LA) := Lib.hid (fun u hu => hr.below hu)
  clear hr hb HX M1
  go_upto_region 3 with fail
  clear hU hy hy' j1 j2 j3 j4 j5
  have hc0 := HCODE.out
  have M2 := fold_in (HA2.out.now) (by omega) HX2.out.now.nam HX2.out.now.pos
  rw [fold_zero hc0] at M2
  have M3 := Lib.hid (fun (u : World) (hu : Below w2.heap.size w2 u) => dfold_in (HA2.out u hu) (by omega) (fun e he => by have := may_text (HMAY.out e he).1; omega))
  rw [fold_zero hc0] at M3
  unfold DFPost at M3
  obtain ⟨TH, hTH⟩ : ∃ TH, (foldOn Man.zero LA).1.th = TH := ⟨_, rfl⟩
  obtain ⟨VW, hVW⟩ : ∃ TH, (foldOn Man.zero LA).1.vw = TH := ⟨_, rfl⟩
  obtain ⟨⟨u0, u1, u2, u3, u4, u5⟩, hRU⟩ : ∃ RU, (foldOn Man.zero LA).1.ru = RU := ⟨_, rfl⟩
  have HASC : Hid ((TH.map Inf.id).Pairwise (· < ·)) := Lib.hid (by rw [← hTH]; exact HGD.out.asc)
  have HTL : Hid (TH.length ≤ 40) := Lib.hid (by rw [← hTH]; have := HGD.out.len.1; omega)
  rw [hTH, hVW, hRU] at M2 M3
  unfold Pol.val at M2 M3
  simp only at M2 M3
  have HM2 := Lib.hid M2
  clear M2 hc0 hTH hVW hRU HGD
  obtain ⟨tn, htn⟩ : ∃ tn, TH.length = tn := ⟨_, rfl⟩
  rw [htn] at HM2 M3 HTL
  have HTN := Lib.hid htn
  clear htn
  go_wp2_with fail
  refine HM2.out.mono ?_
  rintro en w3 ⟨A3, c3, rfl, hri, hb3⟩
  have hb_ := past hb3 (below_box w3 (.cells #[.int .i64 u0, .int .i64 u1, .int .i64 u2, .int .i64 u3, .int .i64 u4, .int .i64 u5] 39))
  have HX4 := Lib.hid (HX2.out.on hb_)
  have HA4 := Lib.hid (HA2.out.on hb_)
  have HI4 : Hid (Later (w3.alloc (.cells #[.int .i64 u0, .int .i64 u1, .int .i64 u2, .int .i64 u3, .int .i64 u4, .int .i64 u5] 39)) fun u => InfRow u A3 tn c3 TH) := Lib.hid (fun u hu => hri.below (past (below_box w3 _) hu))
  have HP4 : Hid (Later (w3.alloc (.cells #[.int .i64 u0, .int .i64 u1, .int .i64 u2, .int .i64 u3, .int .i64 u4, .int .i64 u5] 39)) fun u => PHold u w3.heap.size ⟨u0, u1, u2, u3, u4, u5⟩) := Lib.hid (fun u hu => PHold.below (w := w3.alloc (.cells #[.int .i64 u0, .int .i64 u1, .int .i64 u2, .int .i64 u3, .int .i64 u4, .int .i64 u5] 39)) (by unfold PHold; simp) (by simp) hu)
  have HM3 := Lib.hid (M3.out _ hb_)
  clear hri hb3 hb_ HM2 M3 HX2 HA2
  go_upto_region 4 with fail
  generalize w3.alloc (.cells #[.int .i64 u0, .int .i64 u1, .int .i64 u2, .int .i64 u3, .int .i64 u4, .int .i64 u5] 39) = w4 at *
  generalize w3.heap.size = gp at *
  go_wp2_with fail
  refine HM3.out.mono ?_
  rintro en w5 ⟨A5, c5, rfl, hrj, hb5⟩
  have hb_ := past hb5 (below_box w5 (.cells #[.int .i64 u0, .int .i64 u1, .int .i64 u2, .int .i64 u3, .int .i64 u4, .int .i64 u5] 39))
  have HX6 := Lib.hid (HX4.out.on hb_)
  have HA6 := Lib.hid (HA4.out.on hb_)
  have HI6 : Hid (Later (w5.alloc (.cells #[.int .i64 u0, .int .i64 u1, .int .i64 u2, .int .i64 u3, .int .i64 u4, .int .i64 u5] 39)) _) := Lib.hid (HI4.out.on hb_)
  have HP6 : Hid (Later (w5.alloc (.cells #[.int .i64 u0, .int .i64 u1, .int .i64 u2, .int .i64 u3, .int .i64 u4, .int .i64 u5] 39)) _) := Lib.hid (HP4.out.on hb_)
  have HJ6 : Hid (Later (w5.alloc (.cells #[.int .i64 u0, .int .i64 u1, .int .i64 u2, .int .i64 u3, .int .i64 u4, .int .i64 u5] 39)) fun u => InfRow u A5 tn c5 TH) := Lib.hid (fun u hu => hrj.below (past (below_box w5 _) hu))
  have HQ6 : Hid (Later (w5.alloc (.cells #[.int .i64 u0, .int .i64 u1, .int .i64 u2, .int .i64 u3, .int .i64 u4, .int .i64 u5] 39)) fun u => PHold u w5.heap.size ⟨u0, u1, u2, u3, u4, u5⟩) := Lib.hid (fun u hu => PHold.below (w := w5.alloc (.cells #[.int .i64 u0, .int .i64 u1, .int .i64 u2, .int .i64 u3, .int .i64 u4, .int .i64 u5] 39)) (by unfold PHold; simp) (by simp) hu)
  clear hrj hb5 hb_ HM3 HX4 HA4 HI4 HP4
  go_upto_region 5 with fail
  generalize w5.alloc (.cells #[.int .i64 u0, .int .i64 u1, .int .i64 u2, .int .i64 u3, .int .i64 u4, .int .i64 u5] 39) = w6 at *
  generalize w5.heap.size = gq at *
  have hsl := fun w => sliceE_hi (A := A2) (n := na) (k := k) (cap := c2) (by have := HA6.out.now.le; omega) w
  have M6 := fold_in (HA6.out.now.take HK.out) (by omega) HX6.out.now.nam HX6.out.now.pos
  rw [fold_zero (fold_front k HCODE.out)] at M6
  obtain ⟨⟨F1, F2, ⟨p0, p1, p2, p3, p4, p5⟩, F4, F5⟩, hF⟩ : ∃ F, (foldOn Man.zero (LA.take k)).1 = F := ⟨_, rfl⟩
  rw [hF] at M6
  unfold Pol.val at M6
  simp only at M6
  have HM6 := Lib.hid M6
  clear M6 hF
  go_wp2_with fail
  refine HM6.out.mono ?_
  rintro en w7 ⟨A7, c7, rfl, _, hb7⟩
  have hb_ := past hb7 (below_box w7 (.cells #[.int .i64 p0, .int .i64 p1, .int .i64 p2, .int .i64 p3, .int .i64 p4, .int .i64 p5] 39))
  have HX8 := Lib.hid (HX6.out.on hb_)
  have HI8 := Lib.hid (HI6.out.on hb_)
  have HP8 := Lib.hid (HP6.out.on hb_)
  have HJ8 := Lib.hid (HJ6.out.on hb_)
  have HQ8 := Lib.hid (HQ6.out.on hb_)
  clear hsl hb7 hb_ HM6 HX6 HA6 HI6 HP6 HJ6 HQ6 HK hk HCODE HMAY HNA hla
  go_upto_region 6 with fail
  generalize w7.alloc (.cells #[.int .i64 p0, .int .i64 p1, .int .i64 p2, .int .i64 p3, .int .i64 p4, .int .i64 p5] 39) = w8 at *
  generalize w7.heap.size = gr at *
  have M8 := sameInfo_any HI8.out.now HJ8.out.now
  rw [decide_eq_true rfl] at M8
  have HM8 := Lib.hid M8
  obtain ⟨a0, a1, a2, a3, a4, a5⟩ := HP8.out.now
  obtain ⟨b0, b1, b2, b3, b4, b5⟩ := HQ8.out.now
  simp only at a0 a1 a2 a3 a4 a5 b0 b1 b2 b3 b4 b5
  have AE : ∀ w, (Op.equalIn 9999 37 (.agg #[.int .i64 u0, .int .i64 u1, .int .i64 u2, .int .i64 u3]) (.agg #[.int .i64 u0, .int .i64 u1, .int .i64 u2, .int .i64 u3])).run Tryd.prog w = .ok true w := fun w => by rw [eqArr]; simp
  clear M8
  go_wp2_with fail
  refine HM8.out.mono ?_
  rintro en w9 ⟨rfl, hb9⟩
  have HX9 := Lib.hid (HX8.out.on hb9)
  have HI9 := Lib.hid (HI8.out.on hb9)
  clear hb9 HM8 HX8 HI8 HP8 HJ8 HQ8 a0 a1 a2 a3 a4 a5 b0 b1 b2 b3 b4 b5 AE
  go_wp2
  go_loopw [19] (fun s19 wr => ∃ (k : Nat), s19 = .int .i64 (k : Int) ∧ 1 ≤ k ∧ k ≤ tn + 1 ∧ Hid (Below w9.heap.size w9 wr)) (fun s19 _ => tn + 1 - (intOf s19).toNat)
  case atStart => exact ⟨1, rfl, Nat.le_refl _, by omega, Lib.hid (Below.refl _ _)⟩
  case round =>
    obtain ⟨k, rfl, hk1, hk2, HB⟩ := hrel
    have htl := HTL.out
    by_cases hlt : k < tn
    · have hm := (HI9.out wr HB.out).max
      have hle := (HI9.out wr HB.out).le
      unfold maxLen at hm
      obtain ⟨b, off, rfl, _, hcell⟩ := (HI9.out wr HB.out).cells (by omega)
      obtain ⟨j, hj⟩ : ∃ j, k = j + 1 := ⟨k - 1, by omega⟩
      have d0 := (hcell k hlt).1
      have d1 := (hcell j (by omega)).1
      have hxy := asc_at HASC.out (k := j) (by rw [HTN.out]; omega)
      rw [← hj] at hxy
      clear hcell
      generalize (TH.getD k Inf.zero).id = x at *
      generalize (TH.getD j Inf.zero).id = y at *
      have k1 : (k : Int) < (tn : Int) := by omega
      have k2 : (j : Int) < (tn : Int) := by omega
      have i4 : IntKind.i64.wrap ((k : Int) - 1) = (j : Int) := by rw [IntKind.wrap_i64]; omega
      have q1 : ¬ x ≤ y := by omega
      have q2 : decide (x ≤ y) = false := decide_eq_false q1
      have hin2 : k + 1 ≤ tn + 1 := by omega
      have hin1 : 1 ≤ k + 1 := by omega
      have hib : k + 1 < 4611686018427387904 := by omega
      clear hj hxy
      go_upto_region 11 with fail
      go_quiet (fail)
      have HB2 := Lib.hid (past HB.out (vbelowN wr nq))
      clear d0 d1
      generalize wr.drewN nq = wz at *
      go_wp2
      go_roundw
      case rel => exact ⟨k + 1, by go_num, hin1, hin2, HB2⟩
      case measure => simp [intOf]; omega
    · have k1 : ¬ (k : Int) < (tn : Int) := by omega
      have HXE := Lib.hid (HX9.out.on HB.out)
      clear HB
      go_wp2_with fail
      refine (told_any wr HXE.out.now.nam HXE.out.now.pos).mono ?_
      rintro en w11 ⟨rfl, hb⟩
      have HBF := Lib.hid (past HXE.out.now.below hb)
      clear hb HXE
      go_wp2
      (try rw [Exit.noGoto_ret])
      go_ret
      exact ⟨rfl, HBF.out⟩
end Go.Proofs.YtdpoahjgdndnhaaDoor
