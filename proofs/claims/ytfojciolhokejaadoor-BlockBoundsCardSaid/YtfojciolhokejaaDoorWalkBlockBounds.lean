/-
  The walk of BlockBounds: it returns true, and writes nothing that was there.
-/
import Derived.Test.YtfojciolhokejaaDoorKTold
namespace Go.Proofs.YtfojciolhokejaaDoor.blockBounds
open Go.RowKit
set_option linter.unusedVariables false

theorem wrap_u64_rem {a : Int} (m : Int) (hm : 0 < m) : ∃ x : Int, (IntKind.u64.wrap a).tmod m = x ∧ 0 ≤ x ∧ x < m := by
  have h0 : 0 ≤ IntKind.u64.wrap a := by rw [IntKind.wrap_u64]; omega
  exact ⟨_, rfl, Int.tmod_nonneg m h0, Int.tmod_lt_of_pos _ hm⟩
/-- Times that are squares. -/
def Sq (l : List (Int × Int)) : Prop := ∀ j : Nat, j < l.length → (l.getD j (0, 0)).1 = (j : Int) * j * 1000000
theorem sq_rise {l : List (Int × Int)} (h : Sq l) (hn : l.length ≤ 67) : Rise l := by
  intro i hi
  have h1 := h i hi
  refine ⟨?_, fun h0 => ?_⟩
  · unfold tAt Ag.begin_
    rw [h1]
    have h2 : (i : Int) * i ≤ 67 * 67 := Int.mul_le_mul (by omega) (by omega) (by omega) (by omega)
    have h3 : 0 ≤ (i : Int) * i := Int.mul_nonneg (by omega) (by omega)
    omega
  · unfold tAt
    rw [h1, h (i - 1) (by omega)]
    obtain ⟨k, rfl⟩ : ∃ k, i = k + 1 := ⟨i - 1, by omega⟩
    simp only [Nat.add_sub_cancel]
    have e : ((k + 1 : Nat) : Int) * ((k + 1 : Nat) : Int) = (k : Int) * k + 2 * k + 1 := by
      push_cast
      rw [Int.add_mul, Int.mul_add]
      omega
    rw [e]
    omega
theorem sq_snoc {l : List (Int × Int)} (h : Sq l) {T v : Int} (hT : (l.length : Int) * l.length * 1000000 = T) : Sq (l ++ [(T, v)]) := by
  intro j hj
  rw [List.length_append] at hj
  simp only [List.length_cons, List.length_nil] at hj
  rcases Nat.lt_or_ge j l.length with hlt | hge
  · have := h j hlt
    rw [List.getD_eq_getElem?_getD, List.getElem?_append_left hlt, ← List.getD_eq_getElem?_getD]
    exact this
  · obtain rfl : j = l.length := by omega
    rw [List.getD_eq_getElem?_getD, List.getElem?_append_right (Nat.le_refl _), Nat.sub_self]
    exact hT.symm

set_option maxRecDepth 100000 in
set_option maxHeartbeats 2000000 in
theorem walk (a0 a1 : Int) (w : World) (w0 : (Lit.int .i64 a0).wf = true) (w1 : (Lit.int .i64 a1).wf = true) (hw : Wid w) :
    Calls Tryd.prog 7 #[.int .i64 a0, .int .i64 a1] w fun e w' => e = .returned (.bool true) ∧ Below w.heap.size w w' := by
  obtain ⟨i0, hi0, hz0, hz1, hz2⟩ := info_parts Tryd.info48
  obtain ⟨x, hx, hx0, hx1⟩ := wrap_u64_rem (a := a0) 8 (by decide)
  obtain ⟨U, hU⟩ : ∃ U, IntKind.u64.wrap a0 = U := ⟨_, rfl⟩
  rw [hU] at hx
  obtain ⟨K, hK⟩ : ∃ K : Nat, 60 + x = (K : Int) := ⟨(60 + x).toNat, by omega⟩
  have ha := fits_i64 w1
  have hux : IntKind.u64.wrap x = x := by rw [IntKind.wrap_u64]; omega
  have hix : IntKind.i64.wrap x = x := by rw [IntKind.wrap_i64]; omega
  have hwk : IntKind.i64.wrap (60 + x) = (K : Int) := by rw [IntKind.wrap_i64]; omega
  have hK60 : 60 ≤ K := by omega
  have hK67 : K ≤ 67 := by omega
  clear hK w0 w1
  go_enter Tryd.func7, Tryd.ntmps7
  go_wp2
  clear hx hU hux hix hwk hx0 hx1
  go_loopw [6, 7] (fun s6 s7 wr => ∃ (i : Nat) (l : List (Int × Int)), i ≤ K ∧ s7 = .int .i64 (i : Int) ∧ Hid (wr.ownsRow w.heap.size 48 2 s6 i (sampV l) ∧ Below w.heap.size w wr ∧ In2 l ∧ Sq l ∧ l.length = i)) (fun _ s7 _ => K - (intOf s7).toNat)
  case atStart => exact ⟨0, [], by omega, rfl, Lib.hid ⟨World.ownsRow_nil _ _ _ _, Below.refl _ _, fun _ h => by simp at h, fun _ h => by simp at h, rfl⟩⟩
  case round =>
    obtain ⟨i, l, hi, rfl, HI⟩ := hrel
    by_cases hlt : i < K
    · have i1 : (i : Int) < (K : Int) := by omega
      obtain ⟨R, hR⟩ : ∃ R : Nat, (i : Int).tmod 20 = (R : Int) := ⟨((i : Int).tmod 20).toNat, by have := Int.tmod_nonneg 20 (show (0 : Int) ≤ i by omega); omega⟩
      have hR20 : R < 20 := by have := Int.tmod_lt_of_pos (i : Int) (show (0 : Int) < 20 by decide); omega
      have hRw : IntKind.i64.wrap (R : Int) = (R : Int) := by rw [IntKind.wrap_i64]; omega
      have hRu : IntKind.u64.wrap (R : Int) = (R : Int) := by rw [IntKind.wrap_u64]; omega
      obtain ⟨bb, hbb⟩ : ∃ bb, (bits BinOp.and IntKind.i64 (a1 / 2 ^ R) 1 == 1) = bb := ⟨_, rfl⟩
      obtain ⟨T1, hT1⟩ : ∃ T1, (i : Int) * i = T1 := ⟨_, rfl⟩
      obtain ⟨T, hT⟩ : ∃ T, T1 * 1000000 = T := ⟨_, rfl⟩
      have hb1 : 0 ≤ T1 ∧ T1 ≤ 4489 := by
        rw [← hT1]
        have h2 : (i : Int) * i ≤ 67 * 67 := Int.mul_le_mul (by omega) (by omega) (by omega) (by omega)
        exact ⟨Int.mul_nonneg (by omega) (by omega), h2⟩
      have hw1 : IntKind.i64.wrap ((i : Int) * i) = T1 := by rw [hT1, IntKind.wrap_i64]; omega
      have hw2 : IntKind.i64.wrap (T1 * 1000000) = T := by rw [IntKind.wrap_i64]; omega
      have HTI : Hid (In64 T) := Lib.hid (by unfold In64; omega)
      have HTE : Hid ((i : Int) * i * 1000000 = T) := Lib.hid (by rw [hT1, hT])
      have HB := Lib.hid HI.out.2.1
      have HFR : Hid (∀ k, u6.ownBlock = some k → w.heap.size ≤ k) := Lib.hid (fun k e => (HI.out.1.lt k e).1)
      have HOW := Lib.hid HI.out.1
      have HIN := Lib.hid HI.out.2.2.1
      have HSQ := Lib.hid HI.out.2.2.2.1
      have HLN := Lib.hid HI.out.2.2.2.2
      have hsz := HI.out.2.1.size
      clear hT hT1 hb1 HI
      cases bb with
      | true =>
        have HO : Hid ((wr.alloc (.cells #[.int .i64 T, .int .i64 (-9223372036854775808)] 48)).ownsRow w.heap.size 48 2 u6 i (sampV l)) := Lib.hid (own_alloc HOW.out _)
        have HNW := Lib.hid (new2 wr T (-9223372036854775808))
        go_wp2_with (at_builtin; refine wpList_append_own _ rfl _ _ 22 rfl w.heap.size 48 i0 (.agg #[.int .i64 0, .int .i64 0]) 2 16 Tryd.underlying22 hi0 hz0 hz1 hz2 rfl (by decide) u6 i (sampV l) rfl HO.out ⟨wr.heap.size, 0, none⟩ 1 1 [.int .i64 T, .int .i64 (-9223372036854775808)] rfl rfl HNW.out (one2 _ _) ?c3 ?c4 ?c5 ?_)
        case c3 => unfold maxLen; omega
        case c4 => omega
        case c5 => (try simp); omega
        intro v' wa hown hgrow hnil
        have HN : Hid (wa.ownsRow w.heap.size 48 2 v' (i + 1) (sampV (l ++ [(T, -9223372036854775808)])) ∧ Below w.heap.size w wa ∧ In2 (l ++ [(T, -9223372036854775808)]) ∧ Sq (l ++ [(T, -9223372036854775808)]) ∧ (l ++ [(T, -9223372036854775808)]).length = i + 1) := Lib.hid ⟨by rw [sampV_append]; exact hown, (past_alloc HB.out _).grown hgrow (by simp; omega) HFR.out, by
          intro y hy
          rw [List.mem_append, List.mem_singleton] at hy
          rcases hy with hy | rfl
          · exact HIN.out y hy
          · exact ⟨HTI.out, by unfold In64; simp only; omega⟩, sq_snoc HSQ.out (by rw [HLN.out]; exact HTE.out), by rw [List.length_append, HLN.out]; rfl⟩
        clear hown hgrow hnil
        go_wp2
        go_roundw
        case rel => exact ⟨i + 1, _, by omega, by go_num, HN⟩
        case measure => simp [intOf]; omega
      | false =>
        have HO : Hid ((wr.alloc (.cells #[.int .i64 T, .int .i64 9223372036854775807] 48)).ownsRow w.heap.size 48 2 u6 i (sampV l)) := Lib.hid (own_alloc HOW.out _)
        have HNW := Lib.hid (new2 wr T 9223372036854775807)
        go_wp2_with (at_builtin; refine wpList_append_own _ rfl _ _ 22 rfl w.heap.size 48 i0 (.agg #[.int .i64 0, .int .i64 0]) 2 16 Tryd.underlying22 hi0 hz0 hz1 hz2 rfl (by decide) u6 i (sampV l) rfl HO.out ⟨wr.heap.size, 0, none⟩ 1 1 [.int .i64 T, .int .i64 9223372036854775807] rfl rfl HNW.out (one2 _ _) ?c3 ?c4 ?c5 ?_)
        case c3 => unfold maxLen; omega
        case c4 => omega
        case c5 => (try simp); omega
        intro v' wa hown hgrow hnil
        have HN : Hid (wa.ownsRow w.heap.size 48 2 v' (i + 1) (sampV (l ++ [(T, 9223372036854775807)])) ∧ Below w.heap.size w wa ∧ In2 (l ++ [(T, 9223372036854775807)]) ∧ Sq (l ++ [(T, 9223372036854775807)]) ∧ (l ++ [(T, 9223372036854775807)]).length = i + 1) := Lib.hid ⟨by rw [sampV_append]; exact hown, (past_alloc HB.out _).grown hgrow (by simp; omega) HFR.out, by
          intro y hy
          rw [List.mem_append, List.mem_singleton] at hy
          rcases hy with hy | rfl
          · exact HIN.out y hy
          · exact ⟨HTI.out, by unfold In64; simp only; omega⟩, sq_snoc HSQ.out (by rw [HLN.out]; exact HTE.out), by rw [List.length_append, HLN.out]; rfl⟩
        clear hown hgrow hnil
        go_wp2
        go_roundw
        case rel => exact ⟨i + 1, _, by omega, by go_num, HN⟩
        case measure => simp [intOf]; omega
    · obtain rfl : i = K := by omega
      have ho := HI.out.1
      have HIN := HI.out.2.2.1
      obtain ⟨g, cap, rfl, _, _⟩ := ho.form (by omega)
      obtain ⟨h1, h2, h3, h4, _, _⟩ := Samps.own ho HIN
      have HS := Lib.hid h1
      have HB := Lib.hid HI.out.2.1
      have HR := sq_rise HI.out.2.2.2.1 (by rw [h2]; exact hK67)
      have ir : ¬ (i : Int) < (i : Int) := by omega
      by_cases h64 : 64 < i
      · have h64i : (64 : Int) < (i : Int) := by omega
        have M1 := Lib.hid (fun w (h : Samps w (some ⟨g, 0, none⟩) l) => kput_not h2 h h3 h4 (fun hk => by have := hk.2; omega))
        clear h1 ho HIN HI HR h64
        go_wp2_with fail
        refine (M1.out _ HS.out).mono ?_
        rintro e w1 ⟨rfl, hB1⟩
        have HB1 := Lib.hid (past HB.out hB1)
        clear hB1
        go_wp2_with fail
        refine (told_any _).mono ?_
        rintro e w3 ⟨rfl, hB3⟩
        have HB3 := Lib.hid (past HB1.out hB3)
        clear hB3
        go_wp2
        go_ret
        exact ⟨rfl, HB3.out⟩
      · have h64i : ¬ (64 : Int) < (i : Int) := by omega
        have hok : BOk l := ⟨HR, by omega⟩
        have M1 := Lib.hid (fun w (h : Samps w (some ⟨g, 0, none⟩) l) => kput_res h2 h h3 h4 hok)
        have mg := fun w A cap (h : Bytes w A (putB l)) (h1 : (putB l).length ≤ cap) (h2 : cap ≤ maxLen) => kget_any A _ cap (putB l) w rfl h h1 h2
        rw [getB_putB hok HIN] at mg
        have MG := Lib.hid mg
        have HL := Lib.hid h2
        clear h1 ho HIN HI HR h64 mg hok
        generalize putB l = P at *
        go_wp2_with fail
        refine (M1.out _ HS.out).mono ?_
        rintro e w1 ⟨g1, cap1, rfl, hb1, hc1, hm1, _, hB1⟩
        have HB1 := Lib.hid (past HB.out hB1)
        have HS1 := Lib.hid (HS.out.below hB1)
        have HY1 := Lib.hid hb1
        clear hB1 hb1
        go_wp2_with fail
        refine (MG.out _ _ _ HY1.out hc1 hm1).mono ?_
        rintro e w2 ⟨⟨V, rfl, hown, hin⟩, hB2⟩
        obtain ⟨A3, c3, rfl, hS3, hc3, hm3⟩ := own_form hown hin
        have HB2 := Lib.hid (past HB1.out hB2)
        have HS2 := Lib.hid (HS1.out.below hB2)
        have HS3 := Lib.hid hS3
        clear hB2 hown hin hS3
        rw [h2] at hc3 ⊢
        go_wp2_with fail
        refine (told_any _).mono ?_
        rintro e w3 ⟨rfl, hB3⟩
        have HB3 := Lib.hid (past HB2.out hB3)
        have M4 := Lib.hid (sames_any HL.out (HS3.out.below hB3) (HS2.out.below hB3) hc3 h3 hm3 h4)
        clear hB3
        go_wp2_with fail
        refine M4.out.mono ?_
        rintro e w4 ⟨rfl, hB4⟩
        have HB4 := Lib.hid (past HB3.out hB4)
        clear hB4
        go_wp2
        go_ret
        exact ⟨rfl, HB4.out⟩
end Go.Proofs.YtfojciolhokejaaDoor.blockBounds
