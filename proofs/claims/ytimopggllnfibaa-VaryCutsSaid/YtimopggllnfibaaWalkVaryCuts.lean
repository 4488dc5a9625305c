/-
  The walk of VaryCuts: it returns true, and writes nothing that was there.
-/
import Derived.Test.YtimopggllnfibaaMore
namespace Go.Proofs.Ytimopggllnfibaa.varyCuts
open Go.RowKit

set_option maxRecDepth 100000 in
theorem walk (a0 : Int) (a1 : Int) (a2 : Int) (w0 : (Lit.int .u64 a0).wf = true) (w1 : (Lit.int .i64 a1).wf = true) (w2 : (Lit.int .i64 a2).wf = true) (w : World) :
    Calls Try.prog 8 #[.int .u64 a0, .int .i64 a1, .int .i64 a2] w fun e w' => e = .returned (.bool true) ∧ Below w.heap.size w w' := by
  obtain ⟨l0, u0⟩ := fits_u64 w0
  obtain ⟨l1, u1⟩ := fits_i64 w1
  obtain ⟨l2, u2⟩ := fits_i64 w2
  clear w0 w1 w2
  obtain ⟨n, rfl⟩ := Int.eq_ofNat_of_zero_le l0
  have hn : n < 18446744073709551616 := by omega
  clear l0 u0
  have hL1 := enc_ne n
  have hL2 := enc_len_le hn
  go_enter Try.func8, Try.ntmps8
  go_wp2_with fail
  refine (put_any n _ hn).mono ?_
  rintro e wa ⟨g, cap, rfl, hown, hb1⟩
  obtain ⟨hBy, hlen, hcap, hmax, hg1, hg2⟩ := Bytes.own hown (enc_byte _)
  generalize hE : enc n = bs at *
  have HE := Lib.hid hE
  clear hE
  have HM := Lib.hid hmax
  unfold maxLen at hmax
  have HB := Lib.hid hBy
  clear hBy hlen
  obtain ⟨L, hLL⟩ : ∃ L, L = bs.length := ⟨_, rfl⟩
  rw [← hLL] at hL1 hL2 hown hcap ⊢
  have HL := Lib.hid hLL
  clear hLL
  obtain ⟨U, hU⟩ := wrap_nat a1
  obtain ⟨V, hV⟩ := wrap_nat a2
  obtain ⟨k, hk⟩ : ∃ k, U % L = k := ⟨_, rfl⟩
  have hkL : k < L := hk ▸ Nat.mod_lt U hL1
  have hkz : (U : Int) % (L : Int) = (k : Int) := by rw [← hk]; simp
  go_wp2_with fail
  refine (get_none (bs := bs.take k) (p := 0) (by rw [List.length_take, ← HL.out]; omega) (HB.out.take k) (by omega) HM.out (by omega) (dec_more _ 0 0 (by rw [← HE.out]; exact enc_take n k (by rw [HE.out, ← HL.out]; exact hkL)))).mono ?_
  rintro e w2 ⟨rfl, rfl⟩
  clear hk hkz hU
  obtain ⟨i0, hi, hz0, hz1, hz2⟩ := info_parts Try.info5
  have hown0 : (wa.alloc (.cells #[] 5)).ownsRow w.heap.size 5 1 (.slice (some ⟨wa.heap.size, 0, none⟩) 0 0) 0 [] := World.ownsRow_lit wa #[] 0 hb1.size (by decide) rfl
  have hbl : (bytesV bs).length = L * 1 := by rw [bytesV_length, ← HL.out, Nat.mul_one]
  have hcl := (hown.alloc (.cells #[] 5)).cells (g := g) rfl
  have hws := hb1.size
  have HOWN := Lib.hid hown
  have HBL := Lib.hid hbl
  have HCL := Lib.hid hcl
  have HOWN0 := Lib.hid hown0
  clear hbl hcl hown0 hown
  go_wp2_with (at_builtin; refine wpList_append_own _ rfl _ _ 23 rfl w.heap.size 5 i0 (.int .u8 0) 1 1 Try.underlying23 hi hz0 hz1 hz2 rfl (by decide) _ _ _ rfl HOWN0.out ⟨g, 0, none⟩ L cap (bytesV bs) rfl HBL.out HCL.out (bytesV_one bs) ?c3 ?c4 ?c5 ?_)
  case c3 => unfold maxLen; omega
  case c4 => omega
  case c5 => simp; omega
  intro v1 wb hown1 hgrow1 _
  have hb2 : Below w.heap.size w wb := (hb1.alloc hws _).grown hgrow1 (by simp; omega) (fun k h => (HOWN0.out.lt k h).1)
  obtain ⟨g1, cap1, rfl, hg11, hg12⟩ := hown1.form hL1
  have hcw : wb.cell? ⟨g1, L - 1, none⟩ = some (.int .u8 ((bs.getD (L - 1) 0 : Nat) : Int)) := by
    rw [hown1.cellAt (L - 1) (by omega), bytesV_get _ _ (by rw [← HL.out]; omega)]
  have hfz : wb.frozen? ⟨g1, L - 1, none⟩ = false := hown1.frozenAt (L - 1)
  have hc256 : bs.getD (L - 1) 0 < 256 := HB.out.1 _ (getD_mem (by rw [← HL.out]; omega))
  have HC := Lib.hid (rfl : bs.getD (L - 1) 0 = bs.getD (L - 1) 0)
  generalize bs.getD (L - 1) 0 = c at hcw hc256
  have hor := or128b c hc256
  obtain ⟨d, hd⟩ : ∃ d, d = c % 128 + 128 := ⟨_, rfl⟩
  rw [← hd] at hor
  have hd128 : 128 ≤ d ∧ d < 256 := by omega
  clear hd HC
  have HO1 := Lib.hid hown1
  clear hown1 hgrow1
  go_wp2
  have hst := HO1.out.stored (L - 1) (.int .u8 (d : Int))
  rw [bytesV_set] at hst
  have hb3 : Below w.heap.size w (wb.setCell ⟨g1, L - 1, none⟩ (.int .u8 (d : Int))) := hb2.setCell hg11 _
  have hall : ∀ c ∈ bs.set (L - 1) d, 128 ≤ c ∧ c < 256 := by
    intro x hx
    rw [List.set_eq_take_append_cons_drop, if_pos (by rw [← HL.out]; omega)] at hx
    have e : bs.drop (L - 1 + 1) = [] := List.drop_eq_nil_of_le (by rw [← HL.out]; omega)
    rw [e] at hx
    rcases List.mem_append.1 hx with hx | hx
    · refine ⟨?_, HB.out.1 x (List.mem_of_mem_take hx)⟩
      have := enc_take n (L - 1) (by rw [HE.out, ← HL.out]; omega) x
      rw [HE.out] at this
      exact this hx
    · simp at hx; omega
  have hlen : (bs.set (L - 1) d).length = L := by rw [List.length_set, ← HL.out]
  have hs1 := hst.1
  have HS := Lib.hid hs1
  have HLEN := Lib.hid hlen
  have HALL := Lib.hid hall
  clear hs1 hst hlen hall hcw hfz hor hV
  have hsz3 := hb3.size
  generalize wb.setCell ⟨g1, L - 1, none⟩ (.int .u8 (d : Int)) = wc at hb3 HS hsz3 ⊢
  go_loopw [12, 13] (fun v i wr => ∃ (j : Nat) (cs : List Nat), i = .int .u64 (j : Int) ∧ j ≤ 2 ∧ cs.length + j ≤ 12 ∧ 0 < cs.length ∧ Hid (∀ c ∈ cs, 128 ≤ c ∧ c < 256) ∧
      wr.ownsRow w.heap.size 5 1 v cs.length (bytesV cs) ∧ Below w.heap.size w wr) (fun _ i _ => (intOf i).toNat)
  case atStart => exact ⟨V % 3, bs.set (L - 1) d, by go_num, by omega, by rw [HLEN.out]; omega, by rw [HLEN.out]; omega, HALL, by rw [HLEN.out]; exact HS.out, hb3⟩
  case round =>
    obtain ⟨j, cs, rfl, hj2, hcs1, hcs2, hcs3, hown, hb⟩ := hrel
    have hbs := hb.size
    clear HS hb3 hsz3 HALL HLEN
    by_cases hj : 0 < j
    · go_wp2_with (at_builtin; refine wpList_append_own _ rfl _ _ 23 rfl w.heap.size 5 i0 (.int .u8 0) 1 1 Try.underlying23 hi hz0 hz1 hz2 rfl (by decide) _ _ _ rfl (hown.alloc _) ⟨wr.heap.size, 0, none⟩ 1 1 [.int .u8 128] rfl rfl ?d1 ?d2 ?d3 ?d4 ?d5 ?_)
      case d1 =>
        intro j u hj
        match j, hj with
        | 0, hj => simp at hj; subst hj; simp [Addr.add]
      case d2 => intro u hu; simp at hu; subst hu; rfl
      case d3 => unfold maxLen; omega
      case d4 => omega
      case d5 => simp; omega
      intro v' w1 hown' hgrow _
      go_wp2
      go_roundw
      case rel =>
        refine ⟨j - 1, cs ++ [128], by go_num, by omega, by simp; omega, by simp, ?_, ?_, ?_⟩
        · intro c hc
          rcases List.mem_append.1 hc with hc | hc
          · exact hcs3.out c hc
          · simp at hc; omega
        · rw [bytesV_append]; simpa [bytesV] using hown'
        · exact (hb.alloc hbs _).grown hgrow (by simp; omega) (fun k h => (hown.lt k h).1)
      case measure => simp [intOf]; omega
    · go_wp2_with (at_builtin; refine wpList_append_own _ rfl _ _ 23 rfl w.heap.size 5 i0 (.int .u8 0) 1 1 Try.underlying23 hi hz0 hz1 hz2 rfl (by decide) _ _ _ rfl (hown.alloc _) ⟨wr.heap.size, 0, none⟩ 1 1 [.int .u8 0] rfl rfl ?e1 ?e2 ?e3 ?e4 ?e5 ?_)
      case e1 =>
        intro j u hj
        match j, hj with
        | 0, hj => simp at hj; subst hj; simp [Addr.add]
      case e2 => intro u hu; simp at hu; subst hu; rfl
      case e3 => unfold maxLen; omega
      case e4 => omega
      case e5 => simp; omega
      intro v' w1 hown' hgrow _
      have hb4 : Below w.heap.size w w1 := (hb.alloc hbs _).grown hgrow (by simp; omega) (fun k h => (hown.lt k h).1)
      rw [show bytesV cs ++ [Value.int IntKind.u8 0] = bytesV (cs ++ [0]) by rw [bytesV_append]; rfl] at hown'
      obtain ⟨g2, cap2, rfl, _, _⟩ := hown'.form (by omega)
      obtain ⟨hBy, hlen2, hcap2, hmax2, _, _⟩ := Bytes.own hown' (by
        intro c hc
        rcases List.mem_append.1 hc with hc | hc
        · exact (hcs3.out c hc).2
        · simp at hc; omega)
      have HBY := Lib.hid hBy
      have HM2 := Lib.hid hmax2
      have HLEN2 := Lib.hid hlen2
      clear hBy hmax2 hlen2 hown' hgrow hown
      go_wp2_with fail
      refine (get_none (bs := cs ++ [0]) (p := 0) HLEN2.out HBY.out hcap2 HM2.out (by omega) (dec_none0 cs 0 0 (fun c hc => (hcs3.out c hc).1) (by omega))).mono ?_
      rintro e w2 ⟨rfl, rfl⟩
      go_wp2_with fail
      refine (told_any _).mono ?_
      rintro e w2 ⟨rfl, hbt⟩
      go_wp2
      go_ret
      exact ⟨rfl, hb4.trans (hbt.mono hb4.size)⟩
end Go.Proofs.Ytimopggllnfibaa.varyCuts
