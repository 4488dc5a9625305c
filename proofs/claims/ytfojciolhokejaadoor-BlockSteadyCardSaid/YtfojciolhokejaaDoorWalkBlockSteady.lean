/-
  The walk of BlockSteady: it returns true, and writes nothing that was there.
-/
import Derived.Test.YtfojciolhokejaaDoorKTold
namespace Go.Proofs.YtfojciolhokejaaDoor.blockSteady
open Go.RowKit
set_option linter.unusedVariables false

theorem steady_snoc (d v : Int) : ∀ (n : Nat) (t : Int), steady d v (n + 1) t = steady d v n t ++ [(t + n * d, v)]
  | 0, t => by simp [steady]
  | n + 1, t => by
    have ih := steady_snoc d v n (t + d)
    have e : t + d + (n : Int) * d = t + ((n + 1 : Nat) : Int) * d := by
      push_cast
      rw [Int.add_mul, Int.one_mul]
      omega
    rw [steady, ih, steady, List.cons_append, e]
theorem steady_rise (d v : Int) (hd : 0 < d) : ∀ (n : Nat) (t : Int), 0 ≤ t → t + n * d ≤ 1099511627776 → RiseOn t (steady d v n (t + d))
  | 0, _, _, _ => trivial
  | n + 1, t, h0, h => by
    have e : ((n + 1 : Nat) : Int) * d = n * d + d := by push_cast; rw [Int.add_mul, Int.one_mul]
    have hnn : 0 ≤ (n : Int) * d := Int.mul_nonneg (by omega) (by omega)
    rw [e] at h
    exact ⟨by simp only; omega, by simp only; omega, steady_rise d v hd n (t + d) (by omega) (by omega)⟩
theorem steady_ok (d v : Int) (n : Nat) (hd : 0 < d) (hd2 : d ≤ 60) (hn : n ≤ 64) : BOk (steady d v n 0) := by
  refine ⟨(rise_iff _).2 ?_, by rw [steady_len]; exact hn⟩
  match n with
  | 0 => trivial
  | n + 1 =>
    have h1 : (n : Int) * d ≤ 64 * 60 := Int.mul_le_mul (by omega) hd2 (by omega) (by omega)
    exact ⟨by simp only; omega, by simp only; omega, steady_rise d v hd n 0 (by omega) (by omega)⟩
theorem steady_in (d v : Int) (hv : In64 v) : ∀ (n : Nat) (t : Int), (∀ j : Nat, j < n → In64 (t + j * d)) → In2 (steady d v n t)
  | 0, _, _ => fun s hs => by simp [steady] at hs
  | n + 1, t, h => by
    intro s hs
    rw [steady, List.mem_cons] at hs
    rcases hs with rfl | hs
    · have := h 0 (by omega)
      simp only [Int.ofNat_zero, Int.zero_mul, Int.add_zero] at this
      exact ⟨this, hv⟩
    · refine steady_in d v hv n (t + d) (fun j hj => ?_) s hs
      have := h (j + 1) (by omega)
      have e : ((j + 1 : Nat) : Int) * d = j * d + d := by push_cast; rw [Int.add_mul, Int.one_mul]
      rw [e] at this
      rw [show t + d + (j : Int) * d = t + (j * d + d) by omega]
      exact this
theorem wrap_u64_rem {a : Int} (m : Int) (hm : 0 < m) : ∃ x : Int, (IntKind.u64.wrap a).tmod m = x ∧ 0 ≤ x ∧ x < m := by
  have h0 : 0 ≤ IntKind.u64.wrap a := by rw [IntKind.wrap_u64]; omega
  exact ⟨_, rfl, Int.tmod_nonneg m h0, Int.tmod_lt_of_pos _ hm⟩

set_option maxRecDepth 100000 in
set_option maxHeartbeats 2000000 in
theorem walk (a0 a1 a2 : Int) (w : World) (w0 : (Lit.int .i64 a0).wf = true) (w1 : (Lit.int .i64 a1).wf = true) (w2 : (Lit.int .i64 a2).wf = true) (hw : Wid w) :
    Calls Tryd.prog 5 #[.int .i64 a0, .int .i64 a1, .int .i64 a2] w fun e w' => e = .returned (.bool true) ∧ Below w.heap.size w w' := by
  obtain ⟨i0, hi0, hz0, hz1, hz2⟩ := info_parts Tryd.info48
  obtain ⟨x, hx, hx0, hx1⟩ := wrap_u64_rem (a := a0) 62 (by decide)
  obtain ⟨y, hy, hy0, hy1⟩ := wrap_u64_rem (a := a1) 60 (by decide)
  obtain ⟨U, hU⟩ : ∃ U, IntKind.u64.wrap a0 = U := ⟨_, rfl⟩
  obtain ⟨V, hV⟩ : ∃ V, IntKind.u64.wrap a1 = V := ⟨_, rfl⟩
  rw [hU] at hx
  rw [hV] at hy
  obtain ⟨K, hK⟩ : ∃ K : Nat, 3 + x = (K : Int) := ⟨(3 + x).toNat, by omega⟩
  obtain ⟨d, hd⟩ : ∃ d, 1 + y = d := ⟨_, rfl⟩
  have hv := fits_i64 w2
  have hux : IntKind.u64.wrap x = x := by rw [IntKind.wrap_u64]; omega
  have huy : IntKind.u64.wrap y = y := by rw [IntKind.wrap_u64]; omega
  have hix : IntKind.i64.wrap x = x := by rw [IntKind.wrap_i64]; omega
  have hiy : IntKind.i64.wrap y = y := by rw [IntKind.wrap_i64]; omega
  have hwk : IntKind.i64.wrap (3 + x) = (K : Int) := by rw [IntKind.wrap_i64]; omega
  have hwd : IntKind.i64.wrap (1 + y) = d := by rw [IntKind.wrap_i64]; omega
  have hK3 : 3 ≤ K := by omega
  have hK64 : K ≤ 64 := by omega
  have hd0 : 0 < d := by omega
  have hd60 : d ≤ 60 := by omega
  have HDB := Lib.hid (show 0 < d ∧ d ≤ 60 from ⟨hd0, hd60⟩)
  have HV := Lib.hid hv
  clear hK hd hv hd0 hd60 w0 w1 w2
  go_enter Tryd.func5, Tryd.ntmps5
  go_wp2
  clear hx hy hU hV hux huy hix hiy hwk hwd hx0 hx1 hy0 hy1
  go_loopw [9, 10] (fun s9 s10 wr => ∃ (i : Nat), i ≤ K ∧ s10 = .int .i64 (i : Int) ∧ Hid (wr.ownsRow w.heap.size 48 2 s9 i (sampV (steady d a2 i 0)) ∧ Below w.heap.size w wr)) (fun _ s10 _ => K - (intOf s10).toNat)
  case atStart => exact ⟨0, by omega, rfl, Lib.hid ⟨World.ownsRow_nil _ _ _ _, Below.refl _ _⟩⟩
  case round =>
    obtain ⟨i, hi, rfl, HI⟩ := hrel
    by_cases hlt : i < K
    · obtain ⟨T, hT⟩ : ∃ T, (i : Int) * d = T := ⟨_, rfl⟩
      have hTb : In64 T := by
        have h1 : (i : Int) * d ≤ 64 * 60 := Int.mul_le_mul (by omega) HDB.out.2 (by have := HDB.out.1; omega) (by omega)
        have h2 : 0 ≤ (i : Int) * d := Int.mul_nonneg (by omega) (by have := HDB.out.1; omega)
        rw [hT] at h1 h2
        unfold In64
        omega
      have hwT : IntKind.i64.wrap ((i : Int) * d) = T := by
        rw [hT, IntKind.wrap_i64]
        unfold In64 at hTb
        omega
      have HSN : Hid (steady d a2 (i + 1) 0 = steady d a2 i 0 ++ [(T, a2)]) := Lib.hid (by rw [steady_snoc, Int.zero_add, hT])
      have i1 : (i : Int) < (K : Int) := by omega
      have HO : Hid ((wr.alloc (.cells #[.int .i64 T, .int .i64 a2] 48)).ownsRow w.heap.size 48 2 u9 i (sampV (steady d a2 i 0))) := Lib.hid (own_alloc HI.out.1 _)
      have HB := Lib.hid HI.out.2
      have HFR : Hid (∀ k, u9.ownBlock = some k → w.heap.size ≤ k) := Lib.hid (fun k e => (HI.out.1.lt k e).1)
      have hsz := HI.out.2.size
      have HNW := Lib.hid (new2 wr T a2)
      clear hT hTb HI
      generalize steady d a2 i 0 = L at *
      go_wp2_with (at_builtin; refine wpList_append_own _ rfl _ _ 22 rfl w.heap.size 48 i0 (.agg #[.int .i64 0, .int .i64 0]) 2 16 Tryd.underlying22 hi0 hz0 hz1 hz2 rfl (by decide) u9 i (sampV L) rfl HO.out ⟨wr.heap.size, 0, none⟩ 1 1 [.int .i64 T, .int .i64 a2] rfl rfl HNW.out (one2 _ _) ?c3 ?c4 ?c5 ?_)
      case c3 => unfold maxLen; omega
      case c4 => omega
      case c5 => (try simp); omega
      intro v' wa hown hgrow hnil
      have HN : Hid (wa.ownsRow w.heap.size 48 2 v' (i + 1) (sampV (steady d a2 (i + 1) 0)) ∧ Below w.heap.size w wa) := Lib.hid ⟨by rw [HSN.out, sampV_append]; exact hown, (past_alloc HB.out _).grown hgrow (by simp; omega) HFR.out⟩
      clear hown hgrow hnil
      go_wp2
      go_roundw
      case rel => exact ⟨i + 1, by omega, by go_num, HN⟩
      case measure => simp [intOf]; omega
    · obtain rfl : i = K := by omega
      have HIN : Hid (In2 (steady d a2 i 0)) := Lib.hid (steady_in d a2 HV.out i 0 (fun j hj => by
        have h1 : (j : Int) * d ≤ 64 * 60 := Int.mul_le_mul (by omega) HDB.out.2 (by have := HDB.out.1; omega) (by omega)
        have h2 : 0 ≤ (j : Int) * d := Int.mul_nonneg (by omega) (by have := HDB.out.1; omega)
        unfold In64
        omega))
      have ho := HI.out.1
      obtain ⟨g, cap, rfl, _, _⟩ := ho.form (by omega)
      obtain ⟨h1, h2, h3, h4, _, _⟩ := Samps.own ho HIN.out
      have HS := Lib.hid h1
      have HB := Lib.hid HI.out.2
      have HOK1 := steady_ok d a2 i HDB.out.1 HDB.out.2 hK64
      have HOK2 := steady_ok d a2 2 HDB.out.1 HDB.out.2 (by omega)
      have HTK : (steady d a2 i 0).take 2 = steady d a2 2 0 := by
        obtain ⟨m, hm⟩ : ∃ m, i = m + 2 := ⟨i - 2, by omega⟩
        rw [hm]
        simp [steady]
      have HLEN : (putB (steady d a2 i 0)).length = (putB (steady d a2 2 0)).length + 2 * (i - 2) := by
        have := steady_bytes d a2 (i - 2) 0 (by omega)
        rwa [show i - 2 + 2 = i by omega] at this
      have mp1 := fun w (h : Samps w (some ⟨g, 0, none⟩) (steady d a2 i 0)) => kput_res h2 h h3 h4 HOK1
      have mp2 := fun w (h : Samps w (some ⟨g, 0, none⟩) (steady d a2 2 0)) => kput_res (len := 2) (cap := cap) (by rw [steady_len]) h (by omega) h4 HOK2
      rw [HLEN] at mp1
      have HS2 : Hid (Samps wr (some ⟨g, 0, none⟩) (steady d a2 2 0)) := Lib.hid (HTK ▸ h1.take 2)
      generalize putB (steady d a2 i 0) = P1 at *
      generalize putB (steady d a2 2 0) = P2 at *
      obtain ⟨Lb, hLb⟩ : ∃ Lb, P2.length = Lb := ⟨_, rfl⟩
      rw [hLb] at mp1 mp2
      have M1 := Lib.hid mp1
      have M2 := Lib.hid mp2
      have c2 : (2 : Int) ≤ (cap : Int) := by omega
      have c2n : 2 ≤ cap := by omega
      have hm4 : cap ≤ 9223372036854775807 := h4
      clear mp1 mp2 h1 ho HTK HLEN hLb HOK1 HOK2 HI
      have ir : ¬ (i : Int) < (i : Int) := by omega
      go_wp2_with fail
      refine (M1.out _ HS.out).mono ?_
      rintro e w1 ⟨g1, cap1, rfl, hb1, hc1, hm1, _, hB1⟩
      have HB1 := Lib.hid (past HB.out hB1)
      have HS3 := Lib.hid (HS2.out.below hB1)
      clear hb1 hB1
      go_wp2_with fail
      refine (M2.out _ HS3.out).mono ?_
      rintro e w2 ⟨g2, cap2, rfl, hb2, hc2, hm2, _, hB2⟩
      have HB2 := Lib.hid (past HB1.out hB2)
      clear hb2 hB2
      have e1 : IntKind.i64.wrap ((i : Int) - 2) = (i : Int) - 2 := by rw [IntKind.wrap_i64]; omega
      have e2 : IntKind.i64.wrap (2 * ((i : Int) - 2)) = 2 * ((i : Int) - 2) := by rw [IntKind.wrap_i64]; omega
      have e3 : IntKind.i64.wrap ((Lb : Int) + 2 * ((i : Int) - 2)) = ((Lb + 2 * (i - 2) : Nat) : Int) := by
        unfold maxLen at hm1
        rw [IntKind.wrap_i64]
        omega
      go_wp2_with fail
      refine (told_any _).mono ?_
      rintro e w3 ⟨rfl, hB3⟩
      have HB3 := Lib.hid (past HB2.out hB3)
      clear hB3
      go_wp2
      go_ret
      exact ⟨rfl, HB3.out⟩
end Go.Proofs.YtfojciolhokejaaDoor.blockSteady
