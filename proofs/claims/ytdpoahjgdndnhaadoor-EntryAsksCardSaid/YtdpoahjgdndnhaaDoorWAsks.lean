/-
  The document's SameInfos: of any two rows; nothing that was there is written.
  The walk of EntryAsks: it returns true, and writes nothing that was there.
-/
import Derived.Test.YtdpoahjgdndnhaaDoorEEq
import Derived.Test.YtdpoahjgdndnhaaDoorETold
import Derived.Test.YtdpoahjgdndnhaaDoorLRow
import Derived.Test.YtdpoahjgdndnhaaDoorDFold
import Derived.Test.YtdpoahjgdndnhaaDoorDGetE
set_option maxRecDepth 100000
namespace Go.Proofs.YtdpoahjgdndnhaaDoor
open Go.RowKit
attribute [local go_sem ↓] Go.wp_at_zero Go.wp_at_succ
set_option linter.unusedVariables false

set_option maxHeartbeats 4000000 in
theorem sameIs_any {A B : Option Addr} {n m ca cb : Nat} {l l' : List Inf} {w : World} (h1 : InfRow w A n ca l) (h2 : InfRow w B m cb l') :
    Calls Tryd.prog 21 #[.slice A n ca, .slice B m cb] w fun e w' => e = .returned (.bool (decide (l = l'))) ∧ Below w.heap.size w w' := by
  obtain ⟨R, hR⟩ : ∃ R : Bool, R = decide (l = l') := ⟨_, rfl⟩
  rw [← hR]
  have HR := Lib.hid hR
  have hm1 := h1.max
  have hm2 := h2.max
  have hc1 := h1.le
  have hc2 := h2.le
  unfold maxLen at hm1 hm2
  have HL1 := Lib.hid h1.len
  have HL2 := Lib.hid h2.len
  clear hR
  by_cases hnm : n = m
  case neg =>
    have HF : Hid (R = false) := Lib.hid (by rw [HR.out]; exact decide_eq_false (fun e => hnm (by rw [← HL1.out, ← HL2.out, e])))
    have i1 : ((n : Int) != (m : Int)) = true := by simp; omega
    have i2 : ¬ (n : Int) = (m : Int) := by omega
    clear hnm
    go_enter Tryd.func21, Tryd.ntmps21
    go_wp2
    (try rw [Exit.noGoto_ret])
    go_ret
    exact ⟨by rw [HF.out]; rfl, Below.refl _ _⟩
  subst hnm
  have HA : Hid (Later w fun u => InfRow u A n ca l) := Lib.hid (fun u hu => h1.below hu)
  have HB : Hid (Later w fun u => InfRow u B n cb l') := Lib.hid (fun u hu => h2.below hu)
  clear h1 h2
  go_enter Tryd.func21, Tryd.ntmps21
  go_wp2
  go_loopw [5] (fun s5 wr => ∃ (k : Nat), k ≤ n ∧ s5 = .int .i64 (k : Int) ∧ Hid (∀ j, j < k → l.getD j Inf.zero = l'.getD j Inf.zero) ∧ Hid (Below w.heap.size w wr)) (fun s5 _ => n - (intOf s5).toNat)
  case atStart => exact ⟨0, by omega, rfl, Lib.hid (fun j hj => absurd hj (by omega)), Lib.hid (Below.refl _ _)⟩
  case round =>
    obtain ⟨k, hk, rfl, HE, HW⟩ := hrel
    by_cases hlt : k < n
    · obtain ⟨b, off, rfl, _, hcA⟩ := (HA.out wr HW.out).cells (by omega)
      obtain ⟨b2, off2, rfl, _, hcB⟩ := (HB.out wr HW.out).cells (by omega)
      obtain ⟨c0, c1, c2, c3, c4⟩ := hcA k hlt
      obtain ⟨e0, e1, e2, e3, e4⟩ := hcB k hlt
      obtain ⟨a, ha⟩ : ∃ a, l.getD k Inf.zero = a := ⟨_, rfl⟩
      obtain ⟨d, hd⟩ : ∃ d, l'.getD k Inf.zero = d := ⟨_, rfl⟩
      rw [ha] at c0 c1 c2 c3 c4
      rw [hd] at e0 e1 e2 e3 e4
      have HAA := Lib.hid ha
      have HDD := Lib.hid hd
      have i1 : (0 : Int) ≤ (k : Int) := by omega
      have i2 : (k : Int) < (n : Int) := by omega
      clear ha hd hcA hcB
      by_cases hne : a = d
      · subst hne
        have HE2 : Hid (∀ j, j < k + 1 → l.getD j Inf.zero = l'.getD j Inf.zero) := Lib.hid (fun j hj => by
          rcases Nat.lt_or_ge j k with h | h
          · exact HE.out j h
          · obtain rfl : j = k := by omega
            exact HAA.out.trans HDD.out.symm)
        go_upto_region 6 with fail
        go_quiet (fail)
        have HW2 := Lib.hid (past HW.out (vbelowN wr nq))
        clear c0 c1 c2 c3 c4 e0 e1 e2 e3 e4
        generalize wr.drewN nq = wz at *
        go_wp2
        go_roundw
        case rel => exact ⟨k + 1, by omega, by go_num, HE2, HW2⟩
        case measure => simp [intOf]; omega
      · have hN := inf_neq hne
        have HF : Hid (R = false) := Lib.hid (by rw [HR.out]; exact decide_eq_false (fun e => hne (by rw [← HAA.out, ← HDD.out, e])))
        clear hne
        go_upto_region 6 with fail
        go_quiet (fail)
        have HW2 := Lib.hid (past HW.out (vbelowN wr nq))
        clear c0 c1 c2 c3 c4 e0 e1 e2 e3 e4 hN
        generalize wr.drewN nq = wz at *
        go_wp2
        (try rw [Exit.noGoto_ret])
        go_ret
        exact ⟨by rw [HF.out]; rfl, HW2.out⟩
    · obtain rfl : k = n := by omega
      have HF : Hid (R = true) := Lib.hid (by rw [HR.out]; exact decide_eq_true (rows_eq (x := Inf.zero) HL1.out HL2.out HE.out))
      have i2 : ¬ (k : Int) < (k : Int) := by omega
      go_wp2
      (try rw [Exit.noGoto_ret])
      go_ret
      exact ⟨by rw [HF.out]; rfl, HW.out⟩
end Go.Proofs.YtdpoahjgdndnhaaDoor
set_option maxRecDepth 100000
namespace Go.Proofs.YtdpoahjgdndnhaaDoor
open Go.RowKit
attribute [local go_sem ↓] Go.wp_at_zero Go.wp_at_succ
set_option linter.unusedVariables false

/-- What is carried along: the arguments, the boxes of the two entries. -/
structure AB (w u : World) (A : Option Addr) (n ca : Nat) (l : List Ent) (B : Option Addr) (m cb : Nat) (bs : List Nat) (g5 g6 : Nat) (a c : Ent) : Prop where
  row : EntRow u A n ca l
  brow : BRow u B m cb bs
  nam : Nam u
  pos : 0 < u.heap.size
  below : Below w.heap.size w u
  ea : EV u g5 a
  ec : EV u g6 c
theorem AB.on {w u u' : World} {A : Option Addr} {n ca : Nat} {l : List Ent} {B : Option Addr} {m cb : Nat} {bs : List Nat} {g5 g6 : Nat} {a c : Ent} (h : AB w u A n ca l B m cb bs g5 g6 a c) (hb : Below u.heap.size u u') : AB w u' A n ca l B m cb bs g5 g6 a c :=
  ⟨h.row.below hb, h.brow.below hb, h.nam.below h.pos hb, Nat.lt_of_lt_of_le h.pos hb.size, past h.below hb, h.ea.below hb, h.ec.below hb⟩
set_option maxHeartbeats 16000000 in
theorem walk_asks {A : Option Addr} {n ca : Nat} {l : List Ent} {a c : Ent} {B : Option Addr} {m cb : Nat} {bs : List Nat} {w : World} (h1 : EntRow w A n ca l) (ha : a.ok) (hc : c.ok) (h3 : BRow w B m cb bs) (hw : Nam w) (h0 : 0 < w.heap.size) :
    Calls Tryd.prog 3 #[.slice A n ca, a.val, c.val, .slice B m cb] w fun e w' => e = .returned (.bool true) ∧ Below w.heap.size w w' := by
  obtain ⟨W1, hW1⟩ : ∃ W1, W1 = (w.alloc (.cells #[.int .i64 a.kd, .int .i64 a.vw, .int .i64 a.id, .int .i64 a.tr, .int .i64 a.fr, .int .i64 a.tl, .int .u32 a.sm, .string ⟨a.tx.toArray⟩] 25)).alloc (.cells #[.int .i64 c.kd, .int .i64 c.vw, .int .i64 c.id, .int .i64 c.tr, .int .i64 c.fr, .int .i64 c.tl, .int .u32 c.sm, .string ⟨c.tx.toArray⟩] 25) := ⟨_, rfl⟩
  have hb1 : Below w.heap.size w W1 := by rw [hW1]; exact past (below_box _ _) (below_box _ _)
  have HAB1 : Hid (AB w W1 A n ca l B m cb bs w.heap.size (w.heap.size + 1) a c) := Lib.hid ⟨h1.below hb1, h3.below hb1, hw.below h0 hb1, Nat.lt_of_lt_of_le h0 hb1.size, hb1, by rw [hW1]; exact (EV.new w a).below (below_box _ _), by
    have h := EV.new (w.alloc (.cells #[.int .i64 a.kd, .int .i64 a.vw, .int .i64 a.id, .int .i64 a.tr, .int .i64 a.fr, .int .i64 a.tl, .int .u32 a.sm, .string ⟨a.tx.toArray⟩] 25)) c
    rw [World.size_alloc] at h
    rw [hW1]
    exact h⟩
  have HW1 := Lib.hid hW1
  have HOK := Lib.hid (And.intro ha hc)
  clear hW1 hb1 h1 h3 hw h0 ha hc
  obtain ⟨g6, hg6⟩ : ∃ g, g = w.heap.size + 1 := ⟨_, rfl⟩
  rw [← hg6] at HAB1
  have HG6 := Lib.hid hg6
  clear hg6
  unfold Ent.val str
  go_enter Tryd.func3, Tryd.ntmps3
  go_upto_region 1 with fail
  rw [← HW1.out, ← HG6.out]
  clear HW1 HG6
  have M1 := Lib.hid (few_any HAB1.out.row)
  go_wp2_with fail
  refine M1.out.mono ?_
  rintro en _ ⟨rfl, rfl⟩
  by_cases hf1 : few l
  case neg =>
    rw [decide_eq_false hf1]
    go_wp2_with fail
    refine (told_any W1 HAB1.out.nam HAB1.out.pos).mono ?_
    rintro en wt ⟨rfl, hb⟩
    have HBF := Lib.hid (past HAB1.out.below hb)
    clear hb
    go_wp2
    (try rw [Exit.noGoto_ret])
    go_ret
    exact ⟨rfl, HBF.out⟩
  rw [decide_eq_true hf1]
  have d0 := HAB1.out.ea.c0
  have d1 := HAB1.out.ea.c1
  have d2 := HAB1.out.ea.c2
  have d3 := HAB1.out.ea.c3
  have d4 := HAB1.out.ea.c4
  have d5 := HAB1.out.ea.c5
  have d6 := HAB1.out.ea.c6
  have d7 := HAB1.out.ea.c7
  have e0 := HAB1.out.ec.c0
  have e1 := HAB1.out.ec.c1
  have e2 := HAB1.out.ec.c2
  have e3 := HAB1.out.ec.c3
  have e4 := HAB1.out.ec.c4
  have e5 := HAB1.out.ec.c5
  have e6 := HAB1.out.ec.c6
  have e7 := HAB1.out.ec.c7
  have HF1 := Lib.hid hf1
  clear M1 hf1
  have M2 := Lib.hid (few_any (EntRow.lit W1 [a, c] 2 rfl (by omega) (fun e he => by
    rcases List.mem_cons.1 he with rfl | he
    · exact HOK.out.1
    · rw [List.mem_singleton] at he; rw [he]; exact HOK.out.2) #[.int .i64 a.kd, .int .i64 a.vw, .int .i64 a.id, .int .i64 a.tr, .int .i64 a.fr, .int .i64 a.tl, .int .u32 a.sm, .string ⟨a.tx.toArray⟩, .int .i64 c.kd, .int .i64 c.vw, .int .i64 c.id, .int .i64 c.tr, .int .i64 c.fr, .int .i64 c.tl, .int .u32 c.sm, .string ⟨c.tx.toArray⟩] rfl 25))
  go_wp2_with fail
  refine M2.out.mono ?_
  rintro en _ ⟨rfl, rfl⟩
  have HAB2 : Hid (AB w (W1.alloc (.cells #[.int .i64 a.kd, .int .i64 a.vw, .int .i64 a.id, .int .i64 a.tr, .int .i64 a.fr, .int .i64 a.tl, .int .u32 a.sm, .string ⟨a.tx.toArray⟩, .int .i64 c.kd, .int .i64 c.vw, .int .i64 c.id, .int .i64 c.tr, .int .i64 c.fr, .int .i64 c.tl, .int .u32 c.sm, .string ⟨c.tx.toArray⟩] 25)) A n ca l B m cb bs w.heap.size g6 a c) := Lib.hid (HAB1.out.on (below_box _ _))
  clear d0 d1 d2 d3 d4 d5 d6 d7 e0 e1 e2 e3 e4 e5 e6 e7 M2
  generalize W1.alloc (.cells #[.int .i64 a.kd, .int .i64 a.vw, .int .i64 a.id, .int .i64 a.tr, .int .i64 a.fr, .int .i64 a.tl, .int .u32 a.sm, .string ⟨a.tx.toArray⟩, .int .i64 c.kd, .int .i64 c.vw, .int .i64 c.id, .int .i64 c.tr, .int .i64 c.fr, .int .i64 c.tl, .int .u32 c.sm, .string ⟨c.tx.toArray⟩] 25) = W2 at *
  by_cases hf2 : few [a, c]
  case neg =>
    rw [decide_eq_false hf2]
    go_wp2_with fail
    refine (told_any W2 HAB2.out.nam HAB2.out.pos).mono ?_
    rintro en wt ⟨rfl, hb⟩
    have HBF := Lib.hid (past HAB2.out.below hb)
    clear hb
    go_wp2
    (try rw [Exit.noGoto_ret])
    go_ret
    exact ⟨rfl, HBF.out⟩
  rw [decide_eq_true hf2]
  have HF2 := Lib.hid hf2
  clear hf2
  by_cases hm : m ≤ 400
  case neg =>
    have k1 : (m : Int) > 400 := by omega
    go_wp2_with fail
    refine (told_any W2 HAB2.out.nam HAB2.out.pos).mono ?_
    rintro en wt ⟨rfl, hb⟩
    have HBF := Lib.hid (past HAB2.out.below hb)
    clear hb
    go_wp2
    (try rw [Exit.noGoto_ret])
    go_ret
    exact ⟨rfl, HBF.out⟩
  have k1 : ¬ (m : Int) > 400 := by omega
  have HM := Lib.hid hm
  clear hm
  obtain ⟨⟨P, f⟩, hput⟩ : ∃ x, a.put = x := ⟨_, rfl⟩
  have HP := Lib.hid hput
  have HTA : Hid (a.tx.length ≤ 400) := Lib.hid (HF2.out.1 a (by simp))
  have M3 := put_ent a W2 HOK.out.1 HAB2.out.nam HAB2.out.pos
  rw [hput] at M3
  unfold PutEPost Ent.val str at M3
  simp only at M3
  have HM3 := Lib.hid M3
  clear M3 hput
  have d0 := HAB2.out.ea.c0
  have d1 := HAB2.out.ea.c1
  have d2 := HAB2.out.ea.c2
  have d3 := HAB2.out.ea.c3
  have d4 := HAB2.out.ea.c4
  have d5 := HAB2.out.ea.c5
  have d6 := HAB2.out.ea.c6
  have d7 := HAB2.out.ea.c7
  go_wp2_with fail
  refine HM3.out.mono ?_
  rintro en W3 ⟨A3, c3, rfl, hr3, hb3, _⟩
  have HAB3 := Lib.hid (HAB2.out.on hb3)
  have HX3 : Hid (Later W3 fun u => BRow u A3 P.length c3 P) := Lib.hid (fun u hu => hr3.below hu)
  clear hr3 hb3 HM3 HAB2 k1
  clear d0 d1 d2 d3 d4 d5 d6 d7
  have M4 := dput_any a W3 HOK.out.1 (by have := HTA.out; omega)
  rw [HP.out] at M4
  unfold DPutPost Ent.val str at M4
  simp only at M4
  have HM4 := Lib.hid M4
  clear M4
  have d0 := HAB3.out.ea.c0
  have d1 := HAB3.out.ea.c1
  have d2 := HAB3.out.ea.c2
  have d3 := HAB3.out.ea.c3
  have d4 := HAB3.out.ea.c4
  have d5 := HAB3.out.ea.c5
  have d6 := HAB3.out.ea.c6
  have d7 := HAB3.out.ea.c7
  go_wp2_with fail
  refine HM4.out.mono ?_
  rintro en W4 ⟨rfl, hb4⟩
  have HAB4 := Lib.hid (HAB3.out.on hb4)
  have HX4 := Lib.hid (HX3.out.on hb4)
  clear hb4 HM4 HAB3 HX3
  clear d0 d1 d2 d3 d4 d5 d6 d7
  obtain ⟨⟨U, gf⟩, hU⟩ : ∃ x, getE2 bs = x := ⟨_, rfl⟩
  have HU := Lib.hid hU
  have M5 := get_ent HAB4.out.brow (by have := HM.out; omega) HAB4.out.nam HAB4.out.pos
  unfold GetEPost at M5
  rw [hU] at M5
  unfold Ent.val str at M5
  simp only at M5
  have HM5 := Lib.hid M5
  clear M5 hU
  go_wp2_with fail
  refine HM5.out.mono ?_
  rintro en W5 ⟨rfl, hb5⟩
  have hb_ := past hb5 (below_box W5 (.cells #[.int .i64 U.kd, .int .i64 U.vw, .int .i64 U.id, .int .i64 U.tr, .int .i64 U.fr, .int .i64 U.tl, .int .u32 U.sm, .string ⟨U.tx.toArray⟩] 25))
  have HAB6 := Lib.hid (HAB4.out.on hb_)
  have HX6 := Lib.hid (HX4.out.on hb_)
  have HE6 : Hid (Later (W5.alloc (.cells #[.int .i64 U.kd, .int .i64 U.vw, .int .i64 U.id, .int .i64 U.tr, .int .i64 U.fr, .int .i64 U.tl, .int .u32 U.sm, .string ⟨U.tx.toArray⟩] 25)) fun u => EV u W5.heap.size U) := Lib.hid (fun u hu => EV.below (EV.new W5 U) hu)
  clear hb5 hb_ HM5 HAB4 HX4
  go_upto_region 6 with fail
  generalize W5.alloc (.cells #[.int .i64 U.kd, .int .i64 U.vw, .int .i64 U.id, .int .i64 U.tr, .int .i64 U.fr, .int .i64 U.tl, .int .u32 U.sm, .string ⟨U.tx.toArray⟩] 25) = W6 at *
  generalize W5.heap.size = gu at *
  have cv := conv_bytes HAB6.out.brow.bytes m cb HAB6.out.brow.len
  have M7 := dget_any bs W6 HAB6.out.brow.bytes.1 (by have := HM.out; have := HAB6.out.brow.len; omega)
  unfold GetEPost at M7
  rw [HU.out] at M7
  unfold Ent.val str at M7
  simp only at M7
  have HM7 := Lib.hid M7
  clear M7
  go_wp2_with fail
  refine HM7.out.mono ?_
  rintro en W7 ⟨rfl, hb7⟩
  have hb_ := past hb7 (below_box W7 (.cells #[.int .i64 U.kd, .int .i64 U.vw, .int .i64 U.id, .int .i64 U.tr, .int .i64 U.fr, .int .i64 U.tl, .int .u32 U.sm, .string ⟨U.tx.toArray⟩] 25))
  have HAB8 := Lib.hid (HAB6.out.on hb_)
  have HX8 := Lib.hid (HX6.out.on hb_)
  have HE8 := Lib.hid (HE6.out.on hb_)
  have HV8 : Hid (Later (W7.alloc (.cells #[.int .i64 U.kd, .int .i64 U.vw, .int .i64 U.id, .int .i64 U.tr, .int .i64 U.fr, .int .i64 U.tl, .int .u32 U.sm, .string ⟨U.tx.toArray⟩] 25)) fun u => EV u W7.heap.size U) := Lib.hid (fun u hu => EV.below (EV.new W7 U) hu)
  clear hb7 hb_ HM7 HAB6 HX6 HE6 cv
  go_upto_region 7 with fail
  generalize W7.alloc (.cells #[.int .i64 U.kd, .int .i64 U.vw, .int .i64 U.id, .int .i64 U.tr, .int .i64 U.fr, .int .i64 U.tl, .int .u32 U.sm, .string ⟨U.tx.toArray⟩] 25) = W8 at *
  generalize W7.heap.size = gv at *
  have hn60 : n ≤ 60 := by have := HAB8.out.row.len; have := HF1.out.2; omega
  have M9 := fold_in HAB8.out.row (by omega) HAB8.out.nam HAB8.out.pos
  have N9 := fun (u : World) (hu : Below W8.heap.size W8 u) => dfold_in (HAB8.out.row.below hu) (by omega) (fun e he => by have := HF1.out.1 e he; omega)
  obtain ⟨⟨TH, ⟨u0, u1, u2, u3, u4, u5⟩, VW, FC⟩, hF⟩ : ∃ x, fold l = x := ⟨_, rfl⟩
  rw [hF] at M9 N9
  unfold DFPost at N9
  unfold Pol.val at M9 N9
  simp only at M9 N9
  obtain ⟨tn, htn⟩ : ∃ tn, TH.length = tn := ⟨_, rfl⟩
  rw [htn] at M9 N9
  have HTN := Lib.hid htn
  have HM9 := Lib.hid M9
  have HN9 := Lib.hid N9
  clear M9 N9 hF htn hn60
  go_wp2_with fail
  refine HM9.out.mono ?_
  rintro en W9 ⟨A9, c9, rfl, hr9, hb9⟩
  have hb_ := past hb9 (below_box W9 (.cells #[.int .i64 u0, .int .i64 u1, .int .i64 u2, .int .i64 u3, .int .i64 u4, .int .i64 u5] 39))
  have HAB10 := Lib.hid (HAB8.out.on hb_)
  have HX10 := Lib.hid (HX8.out.on hb_)
  have HE10 := Lib.hid (HE8.out.on hb_)
  have HV10 := Lib.hid (HV8.out.on hb_)
  have HI10 : Hid (Later (W9.alloc (.cells #[.int .i64 u0, .int .i64 u1, .int .i64 u2, .int .i64 u3, .int .i64 u4, .int .i64 u5] 39)) fun u => InfRow u A9 tn c9 TH) := Lib.hid (fun u hu => hr9.below (past (below_box W9 _) hu))
  have HP10 : Hid (Later (W9.alloc (.cells #[.int .i64 u0, .int .i64 u1, .int .i64 u2, .int .i64 u3, .int .i64 u4, .int .i64 u5] 39)) fun u => PHold u W9.heap.size ⟨u0, u1, u2, u3, u4, u5⟩) := Lib.hid (fun u hu => PHold.below (w := W9.alloc (.cells #[.int .i64 u0, .int .i64 u1, .int .i64 u2, .int .i64 u3, .int .i64 u4, .int .i64 u5] 39)) (by unfold PHold; simp) (by simp) hu)
  have HM10 := Lib.hid (HN9.out _ hb_)
  clear hb9 hb_ hr9 HM9 HN9 HAB8 HX8 HE8 HV8
  go_upto_region 8 with fail
  generalize W9.alloc (.cells #[.int .i64 u0, .int .i64 u1, .int .i64 u2, .int .i64 u3, .int .i64 u4, .int .i64 u5] 39) = W10 at *
  generalize W9.heap.size = gp at *
  go_wp2_with fail
  refine HM10.out.mono ?_
  rintro en W11 ⟨A11, c11, rfl, hr11, hb11⟩
  have hb_ := past hb11 (below_box W11 (.cells #[.int .i64 u0, .int .i64 u1, .int .i64 u2, .int .i64 u3, .int .i64 u4, .int .i64 u5] 39))
  have HAB12 := Lib.hid (HAB10.out.on hb_)
  have HX12 := Lib.hid (HX10.out.on hb_)
  have HE12 := Lib.hid (HE10.out.on hb_)
  have HV12 := Lib.hid (HV10.out.on hb_)
  have HI12 := Lib.hid (HI10.out.on hb_)
  have HP12 := Lib.hid (HP10.out.on hb_)
  have HJ12 : Hid (Later (W11.alloc (.cells #[.int .i64 u0, .int .i64 u1, .int .i64 u2, .int .i64 u3, .int .i64 u4, .int .i64 u5] 39)) fun u => InfRow u A11 tn c11 TH) := Lib.hid (fun u hu => hr11.below (past (below_box W11 _) hu))
  have HQ12 : Hid (Later (W11.alloc (.cells #[.int .i64 u0, .int .i64 u1, .int .i64 u2, .int .i64 u3, .int .i64 u4, .int .i64 u5] 39)) fun u => PHold u W11.heap.size ⟨u0, u1, u2, u3, u4, u5⟩) := Lib.hid (fun u hu => PHold.below (w := W11.alloc (.cells #[.int .i64 u0, .int .i64 u1, .int .i64 u2, .int .i64 u3, .int .i64 u4, .int .i64 u5] 39)) (by unfold PHold; simp) (by simp) hu)
  clear hb11 hb_ hr11 HM10 HAB10 HX10 HE10 HV10 HI10 HP10
  go_upto_region 9 with fail
  generalize W11.alloc (.cells #[.int .i64 u0, .int .i64 u1, .int .i64 u2, .int .i64 u3, .int .i64 u4, .int .i64 u5] 39) = W12 at *
  generalize W11.heap.size = gq at *
  have cv : ∀ u : SubB W12, (convert 26 9 (.slice A3 P.length c3)).run Tryd.prog u.w = .ok (.string (strB P)) u.w := fun u => conv_bytes (HX12.out u.w u.le).bytes P.length c3 rfl
  have X0 : ∀ u : SubB W12, u.w.cell? ⟨gu, 0, none⟩ = some (.int .i64 U.kd) := fun u => (HE12.out u.w u.le).c0
  have X1 : ∀ u : SubB W12, u.w.cell? ⟨gu, 1, none⟩ = some (.int .i64 U.vw) := fun u => (HE12.out u.w u.le).c1
  have X2 : ∀ u : SubB W12, u.w.cell? ⟨gu, 2, none⟩ = some (.int .i64 U.id) := fun u => (HE12.out u.w u.le).c2
  have X3 : ∀ u : SubB W12, u.w.cell? ⟨gu, 3, none⟩ = some (.int .i64 U.tr) := fun u => (HE12.out u.w u.le).c3
  have X4 : ∀ u : SubB W12, u.w.cell? ⟨gu, 4, none⟩ = some (.int .i64 U.fr) := fun u => (HE12.out u.w u.le).c4
  have X5 : ∀ u : SubB W12, u.w.cell? ⟨gu, 5, none⟩ = some (.int .i64 U.tl) := fun u => (HE12.out u.w u.le).c5
  have X6 : ∀ u : SubB W12, u.w.cell? ⟨gu, 6, none⟩ = some (.int .u32 U.sm) := fun u => (HE12.out u.w u.le).c6
  have X7 : ∀ u : SubB W12, u.w.cell? ⟨gu, 7, none⟩ = some (.string ⟨U.tx.toArray⟩) := fun u => (HE12.out u.w u.le).c7
  have Y0 : ∀ u : SubB W12, u.w.cell? ⟨gv, 0, none⟩ = some (.int .i64 U.kd) := fun u => (HV12.out u.w u.le).c0
  have Y1 : ∀ u : SubB W12, u.w.cell? ⟨gv, 1, none⟩ = some (.int .i64 U.vw) := fun u => (HV12.out u.w u.le).c1
  have Y2 : ∀ u : SubB W12, u.w.cell? ⟨gv, 2, none⟩ = some (.int .i64 U.id) := fun u => (HV12.out u.w u.le).c2
  have Y3 : ∀ u : SubB W12, u.w.cell? ⟨gv, 3, none⟩ = some (.int .i64 U.tr) := fun u => (HV12.out u.w u.le).c3
  have Y4 : ∀ u : SubB W12, u.w.cell? ⟨gv, 4, none⟩ = some (.int .i64 U.fr) := fun u => (HV12.out u.w u.le).c4
  have Y5 : ∀ u : SubB W12, u.w.cell? ⟨gv, 5, none⟩ = some (.int .i64 U.tl) := fun u => (HV12.out u.w u.le).c5
  have Y6 : ∀ u : SubB W12, u.w.cell? ⟨gv, 6, none⟩ = some (.int .u32 U.sm) := fun u => (HV12.out u.w u.le).c6
  have Y7 : ∀ u : SubB W12, u.w.cell? ⟨gv, 7, none⟩ = some (.string ⟨U.tx.toArray⟩) := fun u => (HV12.out u.w u.le).c7
  have A_0 : ∀ u : SubB W12, u.w.cell? ⟨w.heap.size, 0, none⟩ = some (.int .i64 a.kd) := fun u => (HAB12.out.on u.le).ea.c0
  have A_1 : ∀ u : SubB W12, u.w.cell? ⟨w.heap.size, 1, none⟩ = some (.int .i64 a.vw) := fun u => (HAB12.out.on u.le).ea.c1
  have A_2 : ∀ u : SubB W12, u.w.cell? ⟨w.heap.size, 2, none⟩ = some (.int .i64 a.id) := fun u => (HAB12.out.on u.le).ea.c2
  have A_3 : ∀ u : SubB W12, u.w.cell? ⟨w.heap.size, 3, none⟩ = some (.int .i64 a.tr) := fun u => (HAB12.out.on u.le).ea.c3
  have A_4 : ∀ u : SubB W12, u.w.cell? ⟨w.heap.size, 4, none⟩ = some (.int .i64 a.fr) := fun u => (HAB12.out.on u.le).ea.c4
  have A_5 : ∀ u : SubB W12, u.w.cell? ⟨w.heap.size, 5, none⟩ = some (.int .i64 a.tl) := fun u => (HAB12.out.on u.le).ea.c5
  have A_6 : ∀ u : SubB W12, u.w.cell? ⟨w.heap.size, 6, none⟩ = some (.int .u32 a.sm) := fun u => (HAB12.out.on u.le).ea.c6
  have A_7 : ∀ u : SubB W12, u.w.cell? ⟨w.heap.size, 7, none⟩ = some (.string ⟨a.tx.toArray⟩) := fun u => (HAB12.out.on u.le).ea.c7
  have C_0 : ∀ u : SubB W12, u.w.cell? ⟨g6, 0, none⟩ = some (.int .i64 c.kd) := fun u => (HAB12.out.on u.le).ec.c0
  have C_1 : ∀ u : SubB W12, u.w.cell? ⟨g6, 1, none⟩ = some (.int .i64 c.vw) := fun u => (HAB12.out.on u.le).ec.c1
  have C_2 : ∀ u : SubB W12, u.w.cell? ⟨g6, 2, none⟩ = some (.int .i64 c.id) := fun u => (HAB12.out.on u.le).ec.c2
  have C_3 : ∀ u : SubB W12, u.w.cell? ⟨g6, 3, none⟩ = some (.int .i64 c.tr) := fun u => (HAB12.out.on u.le).ec.c3
  have C_4 : ∀ u : SubB W12, u.w.cell? ⟨g6, 4, none⟩ = some (.int .i64 c.fr) := fun u => (HAB12.out.on u.le).ec.c4
  have C_5 : ∀ u : SubB W12, u.w.cell? ⟨g6, 5, none⟩ = some (.int .i64 c.tl) := fun u => (HAB12.out.on u.le).ec.c5
  have C_6 : ∀ u : SubB W12, u.w.cell? ⟨g6, 6, none⟩ = some (.int .u32 c.sm) := fun u => (HAB12.out.on u.le).ec.c6
  have C_7 : ∀ u : SubB W12, u.w.cell? ⟨g6, 7, none⟩ = some (.string ⟨c.tx.toArray⟩) := fun u => (HAB12.out.on u.le).ec.c7
  have P_0 : ∀ u : SubB W12, u.w.cell? ⟨gp, 0, none⟩ = some (.int .i64 u0) := fun u => (HP12.out u.w u.le).1
  have P_1 : ∀ u : SubB W12, u.w.cell? ⟨gp, 1, none⟩ = some (.int .i64 u1) := fun u => (HP12.out u.w u.le).2.1
  have P_2 : ∀ u : SubB W12, u.w.cell? ⟨gp, 2, none⟩ = some (.int .i64 u2) := fun u => (HP12.out u.w u.le).2.2.1
  have P_3 : ∀ u : SubB W12, u.w.cell? ⟨gp, 3, none⟩ = some (.int .i64 u3) := fun u => (HP12.out u.w u.le).2.2.2.1
  have P_4 : ∀ u : SubB W12, u.w.cell? ⟨gp, 4, none⟩ = some (.int .i64 u4) := fun u => (HP12.out u.w u.le).2.2.2.2.1
  have P_5 : ∀ u : SubB W12, u.w.cell? ⟨gp, 5, none⟩ = some (.int .i64 u5) := fun u => (HP12.out u.w u.le).2.2.2.2.2
  have Q_0 : ∀ u : SubB W12, u.w.cell? ⟨gq, 0, none⟩ = some (.int .i64 u0) := fun u => (HQ12.out u.w u.le).1
  have Q_1 : ∀ u : SubB W12, u.w.cell? ⟨gq, 1, none⟩ = some (.int .i64 u1) := fun u => (HQ12.out u.w u.le).2.1
  have Q_2 : ∀ u : SubB W12, u.w.cell? ⟨gq, 2, none⟩ = some (.int .i64 u2) := fun u => (HQ12.out u.w u.le).2.2.1
  have Q_3 : ∀ u : SubB W12, u.w.cell? ⟨gq, 3, none⟩ = some (.int .i64 u3) := fun u => (HQ12.out u.w u.le).2.2.2.1
  have Q_4 : ∀ u : SubB W12, u.w.cell? ⟨gq, 4, none⟩ = some (.int .i64 u4) := fun u => (HQ12.out u.w u.le).2.2.2.2.1
  have Q_5 : ∀ u : SubB W12, u.w.cell? ⟨gq, 5, none⟩ = some (.int .i64 u5) := fun u => (HQ12.out u.w u.le).2.2.2.2.2
  have hqu := ent_eql U U
  rw [decide_eq_true rfl] at hqu
  unfold Ent.val str at hqu
  have AE : ∀ w, (Op.equalIn 9999 37 (.agg #[.int .i64 u0, .int .i64 u1, .int .i64 u2, .int .i64 u3]) (.agg #[.int .i64 u0, .int .i64 u1, .int .i64 u2, .int .i64 u3])).run Tryd.prog w = .ok true w := fun w => by rw [eqArr]; simp
  obtain ⟨BM, hBM⟩ : ∃ b, decide a.may = b := ⟨_, rfl⟩
  obtain ⟨BE, hBE⟩ : ∃ b, decide (a = c) = b := ⟨_, rfl⟩
  obtain ⟨BZ, hBZ⟩ : ∃ b, decide (TH = []) = b := ⟨_, rfl⟩
  have hz : ((tn : Int) == 0) = BZ := by
    rw [← hBZ, ← HTN.out, Bool.eq_iff_iff, decide_eq_true_iff, beq_iff_eq]
    constructor
    · intro h; exact List.length_eq_zero_iff.1 (by omega)
    · rintro rfl; rfl
  have hqc := ent_eql a c
  simp only [hBE] at hqc
  unfold Ent.val str at hqc
  have N0 : Hid (∀ u : SubB W12, Calls Tryd.prog 13 #[] u.w fun e w' => e = .returned (.bool true) ∧ Below u.w.heap.size u.w w') := Lib.hid (fun u => told_any u.w (HAB12.out.on u.le).nam (HAB12.out.on u.le).pos)
  have N1 : Hid (∀ u : SubB W12, Calls Tryd.prog 20 #[.slice A9 tn c9, .slice A11 tn c11] u.w fun e w' => e = .returned (.bool true) ∧ Below u.w.heap.size u.w w') := Lib.hid (fun u => by
    have h := sameInfo_any (HI12.out u.w u.le) (HJ12.out u.w u.le)
    rw [decide_eq_true rfl] at h
    exact h)
  have N2 : Hid (∀ u : SubB W12, Calls Tryd.prog 21 #[.slice A9 tn c9, .slice A11 tn c11] u.w fun e w' => e = .returned (.bool true) ∧ Below u.w.heap.size u.w w') := Lib.hid (fun u => by
    have h := sameIs_any (HI12.out u.w u.le) (HJ12.out u.w u.le)
    rw [decide_eq_true rfl] at h
    exact h)
  have N3 : Hid (∀ u : SubB W12, Calls Tryd.prog 22 #[.agg #[.int .i64 a.kd, .int .i64 a.vw, .int .i64 a.id, .int .i64 a.tr, .int .i64 a.fr, .int .i64 a.tl, .int .u32 a.sm, .string ⟨a.tx.toArray⟩]] u.w fun e w' => e = .returned (.bool BM) ∧ Below u.w.heap.size u.w w') := Lib.hid (fun u => by
    have h := may_ent a u.w HOK.out.1 (HAB12.out.on u.le).nam (HAB12.out.on u.le).pos
    rw [hBM] at h
    exact h)
  have N4 : Hid (∀ u : SubB W12, Calls Tryd.prog 23 #[.agg #[.int .i64 a.kd, .int .i64 a.vw, .int .i64 a.id, .int .i64 a.tr, .int .i64 a.fr, .int .i64 a.tl, .int .u32 a.sm, .string ⟨a.tx.toArray⟩]] u.w fun e w' => e = .returned (.bool BM) ∧ Below u.w.heap.size u.w w') := Lib.hid (fun u => by
    have h := dmay_any a u.w (by have := HTA.out; omega)
    rw [hBM] at h
    exact h)
  have N5 : Hid (∀ u : SubB W12, Calls Tryd.prog 24 #[.agg #[.int .i64 a.kd, .int .i64 a.vw, .int .i64 a.id, .int .i64 a.tr, .int .i64 a.fr, .int .i64 a.tl, .int .u32 a.sm, .string ⟨a.tx.toArray⟩], .agg #[.int .i64 c.kd, .int .i64 c.vw, .int .i64 c.id, .int .i64 c.tr, .int .i64 c.fr, .int .i64 c.tl, .int .u32 c.sm, .string ⟨c.tx.toArray⟩]] u.w fun e w' => e = .returned (.bool BE) ∧ Below u.w.heap.size u.w w') := Lib.hid (fun u => by
    have h := same_any a c u.w
    rw [hBE] at h
    exact h)
  have N6 : Hid (∀ u : SubB W12, Calls Tryd.prog 20 #[.slice A9 tn c9, .slice none 0 0] u.w fun e w' => e = .returned (.bool BZ) ∧ Below u.w.heap.size u.w w') := Lib.hid (fun u => by
    have h := sameInfo_any (HI12.out u.w u.le) (InfRow.none u.w)
    rw [hBZ] at h
    exact h)
  have HEND : Hid (Later W12 fun u => Below w.heap.size w u) := Lib.hid (fun u hu => (HAB12.out.on hu).below)
  clear HAB12 HX12 HE12 HV12 HI12 HP12 HJ12 HQ12 hBM hBE hBZ HTN HTA HF1 HF2 HP HU HM HOK
  refine wp_region_calm (by kernel_rfl) (by kernel_rfl) ?_
  (try simp only [List.append])
  repeat (go_big_quiet_step ((first | (go_at_call 13; exact calm_call (N0.out _)) | (go_at_call 20; with_reducible exact calm_call (N1.out _)) | (go_at_call 20; with_reducible exact calm_call (N6.out _)) | (go_at_call 21; with_reducible exact calm_call (N2.out _)) | (go_at_call 22; with_reducible exact calm_call (N3.out _)) | (go_at_call 23; with_reducible exact calm_call (N4.out _)) | (go_at_call 24; with_reducible exact calm_call (N5.out _)))))
  refine wpQuiet_nil ?_
  rintro _ ⟨u, rfl⟩
  clear X0 X1 X2 X3 X4 X5 X6 X7 Y0 Y1 Y2 Y3 Y4 Y5 Y6 Y7 A_0 A_1 A_2 A_3 A_4 A_5 A_6 A_7 C_0 C_1 C_2 C_3 C_4 C_5 C_6 C_7 P_0 P_1 P_2 P_3 P_4 P_5 Q_0 Q_1 Q_2 Q_3 Q_4 Q_5
  go_wp2
  (try rw [Exit.noGoto_ret])
  go_ret
  exact ⟨rfl, HEND.out u.w u.le⟩
end Go.Proofs.YtdpoahjgdndnhaaDoor
