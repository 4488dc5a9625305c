/-
  Get, Info of segments: what each returns; nothing that was there is written.
-/
import Derived.Test.YtepancmkopifpaaDoorSRead
set_option maxRecDepth 100000
namespace Go.Proofs.YtepancmkopifpaaDoor
open Go.RowKit
attribute [local go_sem ↓] Go.wp_at_zero Go.wp_at_succ
set_option linter.unusedVariables false

/-- What Get returns. -/
def GetG (w : World) (R : Option Sg) (e : Ending) (w' : World) : Prop :=
  (match R with
    | some s => ∃ A n ca B m cb, e = .returned (.tuple #[.agg #[.int .i64 s.id, .int .i64 s.tier, .int .i64 s.fr, .int .i64 s.tz, .slice A n ca, .slice B m cb], .int .i64 0]) ∧ SegN w' w.heap.size s A n ca B m cb
    | none => e = .returned (.tuple #[.agg #[.int .i64 0, .int .i64 0, .int .i64 0, .int .i64 0, .slice none 0 0, .slice none 0 0], .int .i64 2])) ∧ Below w.heap.size w w'
def mayO (o : Option Sg) : Option Sg := match o with | none => none | some s => if s.may then some s else none
theorem mayC {c : List Nat} (hb : ∀ x ∈ c, x < 256) : readC c = mayO (readW c) := by rw [readW_C hb]; rfl
theorem readS_cases {b : List Nat} (hb : ∀ c ∈ b, c < 256) : readS b = if b.length ≤ 4000 ∧ summed b ∧ (b.take (b.length - 4)).take 2 = [84, 75] then mayO (readW (b.take (b.length - 4))) else none := by
  have hC := mayC (c := b.take (b.length - 4)) (fun x hx => hb x (List.mem_of_mem_take hx))
  have hs : summed b ↔ (4 ≤ b.length ∧ b.drop (b.length - 4) = four (more 1 (b.take (b.length - 4)))) := Iff.rfl
  rw [← hC]
  unfold readS
  by_cases hq : b.length ≤ 4000 ∧ summed b ∧ (b.take (b.length - 4)).take 2 = [84, 75]
  · obtain ⟨q1, q2, q3⟩ := id hq
    have h6 : 6 ≤ b.length := by
      have := congrArg List.length q3
      rw [List.length_take, List.length_take] at this
      simp at this
      omega
    have e2 : (b.take (b.length - 4)).take 2 = b.take 2 := by rw [List.take_take, Nat.min_eq_left (by omega)]
    rw [e2] at q3
    rw [if_pos hq, if_neg]
    rintro (h | h | h | h)
    · omega
    · omega
    · exact h q3
    · exact h (hs.1 q2).2.symm
  · rw [if_neg hq, if_pos]
    by_cases h6 : b.length < 6
    · exact Or.inl h6
    have e2 : (b.take (b.length - 4)).take 2 = b.take 2 := by rw [List.take_take, Nat.min_eq_left (by omega)]
    rw [e2] at hq
    by_cases a1 : 4000 < b.length
    · exact Or.inr (Or.inl a1)
    · by_cases a2 : b.take 2 = [84, 75]
      · exact Or.inr (Or.inr (Or.inr (fun h => hq ⟨by omega, hs.2 ⟨by omega, h.symm⟩, a2⟩)))
      · exact Or.inr (Or.inr (Or.inl a2))

set_option maxHeartbeats 600000 in
theorem getG_any {A : Option Addr} {n ca : Nat} {b : List Nat} {w : World} (h : BRow w A n ca b) (hw : Wid w) :
    Calls Tryd.prog 12 #[.slice A n ca] w (GetG w (readS b)) := by
  have hlen := h.len
  have hmax := h.max
  have hle := h.le
  unfold maxLen at hmax
  have HF : Hid (∀ w', readS b = none → Below w.heap.size w w' → GetG w (readS b) (.returned (.tuple #[.agg #[.int .i64 0, .int .i64 0, .int .i64 0, .int .i64 0, .slice none 0 0, .slice none 0 0], .int .i64 2])) w') := Lib.hid (fun w' e hb => by rw [e]; exact ⟨rfl, hb⟩)
  have HR := Lib.hid (readS_cases h.bytes.1)
  have m1 := fun u (hu : Below w.heap.size w u) => summed_any (h.below hu)
  have M1 := Lib.hid m1
  have HH := Lib.hid h
  have HW := Lib.hid hw
  have HL := Lib.hid hlen
  have hV0 := SgV.new w 0 0 0 0 (.slice none 0 0) (.slice none 0 0) 26
  have HV0 := Lib.hid hV0
  clear h hw m1 hlen
  by_cases c1 : (n : Int) > 4000
  · have HN : Hid (readS b = none) := Lib.hid (by rw [HR.out, if_neg]; rintro ⟨h, _⟩; have := HL.out; omega)
    obtain ⟨d0, d1, d2, d3, d4, d5, y0, y1, y2, y3, y4, y5⟩ := hV0
    clear hmax hle
    go_enter Tryd.func12, Tryd.ntmps12
    go_wp2
    (try simp only [Exit.inBlock, Exit.then])
    refine bodyPost_ret (v := .tuple #[.agg #[.int .i64 0, .int .i64 0, .int .i64 0, .int .i64 0, .slice none 0 0, .slice none 0 0], .int .i64 2]) ?_ rfl (HF.out _ HN.out ?_)
    · rw [results_cell_tmp rfl]
      go_simp
    · first | with_reducible exact below_box _ _ | with_reducible exact below_set6 (below_box _ _) (Nat.le_refl _) | trace_state
  by_cases c2 : summed b
  · have e2 : decide (summed b) = true := decide_eq_true c2
    rw [e2] at M1
    have c4 : 4 ≤ n := by have := c2.1; have := HL.out; omega
    have hs1 := fun w => sliceB_hi (A := A) (n := n) (k := n - 4) (cap := ca) (by omega) w
    obtain ⟨K, hK⟩ : ∃ K, K = n - 4 := ⟨_, rfl⟩
    rw [← hK] at hs1
    have i0 : IntKind.i64.wrap ((n : Int) - 4) = (K : Int) := by rw [IntKind.wrap_i64]; omega
    have HRD := Lib.hid (fun u (hu : Below w.heap.size w u) => read_any ((HH.out.below hu).take (show K ≤ n by omega)) (HW.out.below hu))
    have HR2 : Hid (readS b = mayO (if (b.take K).take 2 = [84, 75] then readW (b.take K) else none)) := Lib.hid (by
      have e : b.length - 4 = K := by have := HL.out; omega
      rw [HR.out, e]
      by_cases hq : (b.take K).take 2 = [84, 75]
      · rw [if_pos ⟨by have := HL.out; omega, c2, hq⟩, if_pos hq]
      · rw [if_neg (fun h => hq h.2.2), if_neg hq]; rfl)
    generalize (if (b.take K).take 2 = [84, 75] then readW (b.take K) else none) = R at *
    clear HR hK c4 hmax hle c2 e2 hV0 HL
    go_enter Tryd.func12, Tryd.ntmps12
    go_wp2_with fail
    refine (M1.out _ (below_box _ _)).mono ?_
    rintro e w2 ⟨rfl, hb2⟩
    have HV2 := Lib.hid (HV0.out.below hb2)
    have HB2 := Lib.hid (past (below_box _ _) hb2)
    have HS2 : Hid (w.heap.size < w2.heap.size) := Lib.hid (by have := hb2.size; simp at this; omega)
    clear hb2
    go_wp2_with fail
    refine (HRD.out _ HB2.out).mono ?_
    rintro e w3 ⟨he, hb3⟩
    have HV3 := Lib.hid (HV2.out.below hb3)
    have HB3 := Lib.hid (past HB2.out hb3)
    have HS3 : Hid (w.heap.size < w3.heap.size) := Lib.hid (Nat.lt_of_lt_of_le HS2.out hb3.size)
    clear hb3
    cases R with
    | none =>
      obtain ⟨i, k, f, t, A3, n3, ca3, B3, m3, cb3, rfl⟩ := he
      have HN : Hid (readS b = none) := HR2
      have hV3 := HV3.out.below (below_box w3 (.cells #[.int .i64 i, .int .i64 k, .int .i64 f, .int .i64 t, .slice A3 n3 ca3, .slice B3 m3 cb3] 26))
      obtain ⟨d0, d1, d2, d3, d4, d5, y0, y1, y2, y3, y4, y5⟩ := hV3
      go_wp2
      (try simp only [Exit.inBlock, Exit.then])
      refine bodyPost_ret (v := .tuple #[.agg #[.int .i64 0, .int .i64 0, .int .i64 0, .int .i64 0, .slice none 0 0, .slice none 0 0], .int .i64 2]) ?_ rfl (HF.out _ HN.out ?_)
      · rw [results_cell_tmp rfl]
        go_simp
      · exact below_set6 (past HB3.out (below_box _ _)) (Nat.le_refl _)
    | some s =>
      obtain ⟨A3, n3, ca3, B3, m3, cb3, rfl, hsg⟩ := he
      have m4 := fun u (hu : Below w3.heap.size w3 u) => mayG_any (hsg.at_.below hu) (HW.out.below (past HB3.out hu))
      obtain ⟨i, k, f, t, sm, ag⟩ := s
      simp only at *
      have HSG := Lib.hid hsg
      clear hsg
      by_cases hm : Sg.may ⟨i, k, f, t, sm, ag⟩
      · rw [decide_eq_true hm] at m4
        have HN : Hid (readS b = some ⟨i, k, f, t, sm, ag⟩) := Lib.hid (by rw [HR2.out]; unfold mayO; simp only; rw [if_pos hm])
        have M4 := Lib.hid m4
        clear m4 hm HR2
        go_wp2_with fail
        refine (M4.out _ (below_box _ _)).mono ?_
        rintro e w5 ⟨rfl, hb5⟩
        have hV4 : SgV (w3.alloc (.cells #[.int .i64 i, .int .i64 k, .int .i64 f, .int .i64 t, .slice A3 n3 ca3, .slice B3 m3 cb3] 26)) w3.heap.size i k f t (.slice A3 n3 ca3) (.slice B3 m3 cb3) := SgV.new _ _ _ _ _ _ _ _
        obtain ⟨d0, d1, d2, d3, d4, d5, y0, y1, y2, y3, y4, y5⟩ := hV4.below hb5
        obtain ⟨r0, r1, r2, r3, r4, r5, s0, s1, s2, s3, s4, s5⟩ := (HV3.out.below (below_box _ _)).below hb5
        have HSG5 := Lib.hid ((HSG.out.below (below_box _ _)).below hb5)
        have HB5 := Lib.hid (past HB3.out (past (below_box _ _) hb5))
        have hne : w.heap.size ≠ w3.heap.size := Nat.ne_of_lt HS3.out
        have hne' : w3.heap.size ≠ w.heap.size := fun h => hne h.symm
        clear hb5 hV4
        go_wp2
        (try simp only [Exit.inBlock, Exit.then])
        refine bodyPost_ret (v := .tuple #[.agg #[.int .i64 i, .int .i64 k, .int .i64 f, .int .i64 t, .slice A3 n3 ca3, .slice B3 m3 cb3], .int .i64 0]) ?_ rfl ?_
        · rw [results_cell_tmp rfl]
          go_simp
        · rw [HN.out]
          exact ⟨⟨_, _, _, _, _, _, rfl, (HSG5.out.set6 HS2.out).low (Nat.le_of_lt HS2.out)⟩, below_set6 HB5.out (Nat.le_refl _)⟩
      · rw [decide_eq_false hm] at m4
        have HN : Hid (readS b = none) := Lib.hid (by rw [HR2.out]; unfold mayO; simp only; rw [if_neg hm])
        have M4 := Lib.hid m4
        clear m4 hm HR2
        go_wp2_with fail
        refine (M4.out _ (below_box _ _)).mono ?_
        rintro e w5 ⟨rfl, hb5⟩
        obtain ⟨r0, r1, r2, r3, r4, r5, s0, s1, s2, s3, s4, s5⟩ := (HV3.out.below (below_box _ _)).below hb5
        have HB5 := Lib.hid (past HB3.out (past (below_box _ _) hb5))
        clear hb5
        go_wp2
        (try simp only [Exit.inBlock, Exit.then])
        refine bodyPost_ret (v := .tuple #[.agg #[.int .i64 0, .int .i64 0, .int .i64 0, .int .i64 0, .slice none 0 0, .slice none 0 0], .int .i64 2]) ?_ rfl (HF.out _ HN.out ?_)
        · rw [results_cell_tmp rfl]
          go_simp
        · exact below_set6 HB5.out (Nat.le_refl _)
  · have e2 : decide (summed b) = false := decide_eq_false c2
    rw [e2] at M1
    have HN : Hid (readS b = none) := Lib.hid (by rw [HR.out, if_neg]; rintro ⟨_, h, _⟩; exact c2 h)
    clear HR hmax hle c2 e2 hV0
    go_enter Tryd.func12, Tryd.ntmps12
    go_wp2_with fail
    refine (M1.out _ (below_box _ _)).mono ?_
    rintro e w2 ⟨rfl, hb2⟩
    obtain ⟨d0, d1, d2, d3, d4, d5, y0, y1, y2, y3, y4, y5⟩ := HV0.out.below hb2
    have HB2 := Lib.hid (past (below_box _ _) hb2)
    clear hb2
    go_wp2
    (try simp only [Exit.inBlock, Exit.then])
    refine bodyPost_ret (v := .tuple #[.agg #[.int .i64 0, .int .i64 0, .int .i64 0, .int .i64 0, .slice none 0 0, .slice none 0 0], .int .i64 2]) ?_ rfl (HF.out _ HN.out ?_)
    · rw [results_cell_tmp rfl]
      go_simp
    · exact below_set6 HB2.out (Nat.le_refl _)
end Go.Proofs.YtepancmkopifpaaDoor
