/-
  Make: the segment that it makes of integers; nothing that was there is written.
-/
import Derived.Test.YtepancmkopifpaaDoorMMath
import Derived.Test.YtepancmkopifpaaDoorSKeep
import Derived.Laws.AppendOwnNone
import Derived.Laws.ResultCell
set_option maxRecDepth 100000
namespace Go.Proofs.YtepancmkopifpaaDoor
open Go.RowKit
attribute [local go_sem ↓] Go.wp_at_zero Go.wp_at_succ
set_option linter.unusedVariables false

theorem Ints.below {w w' : World} {A : Option Addr} {n cap : Nat} {l : List Int} (h : Ints w A n cap l) (hb : Below w.heap.size w w') : Ints w' A n cap l := by
  obtain ⟨h1, h2, h3, h4, h5, h6⟩ := h
  refine ⟨h1, h2, fun h0 => ?_, h4, h5, h6⟩
  obtain ⟨b, off, e, hc⟩ := h3 h0
  exact ⟨b, off, e, fun j hj => by rw [hb.cell (World.block_lt_of_cell? w _ (hc j hj))]; exact hc j hj⟩
def intV (l : List Int) : List Value := l.map (Value.int .i64)
theorem intV_append (a b : List Int) : intV (a ++ b) = intV a ++ intV b := by simp [intV]
theorem intV_len (a : List Int) : (intV a).length = a.length := by simp [intV]
theorem ints_of_own {w : World} {base n : Nat} {v : Value} {l : List Int} (h : w.ownsRow base 3 1 v n (intV l)) (hb : ∀ x ∈ l, In64 x) : ∃ A cap, v = .slice A n cap ∧ Ints w A n cap l := by
  have hn : l.length = n := by have := h.1; rw [intV_len] at this; omega
  rcases h.2 with ⟨e, e0⟩ | ⟨g, cap, cur, e, hbg, hh, h1, h2, _⟩
  · subst e0
    obtain rfl : l = [] := List.length_eq_zero_iff.1 hn
    exact ⟨none, 0, e, rfl, by simp, fun h => absurd h (by simp), Nat.le_refl _, by unfold maxLen; omega, fun _ => rfl⟩
  · subst e
    refine ⟨some ⟨g, 0, none⟩, cap, rfl, hn, hb, fun h0 => ⟨g, 0, rfl, fun j hj => ?_⟩, h1, h2, fun e => by cases e⟩
    rw [Nat.zero_add, h.cellAt j (by omega), intV, List.getElem?_map, List.getD_eq_getElem?_getD, List.getElem?_eq_getElem (by omega)]
    rfl
theorem Tryd.info3 : (Tryd.prog.info? 3).map (fun i => (i.zero, i.size, i.bytes)) = some (some (.int .i64 0), 1, 8) := by kernel_rfl
/-- append(v, x...) of rows of integers. -/
theorem wpList_append_ints {w : World} {ops : Array Oper} {rest : List Oper} {o : Oper} {a : Act} {Q : Exit → Act → World → Prop} (hgd : o.guard = none) (s x : Operand)
    (ho : o.op = .call { callee := .builtin .append, args := #[s, x], argTypes := #[35, 35] }) (base : Nat) (v : Value) (n m : Nat) (l l2 : List Int) (hs : a.eval s = v) (hown : w.ownsRow base 3 1 v n (intV l))
    (B : Option Addr) (c : Nat) (hx : a.eval x = .slice B m c) (hr : Ints w B m c l2) (hlen : (n + m) * 8 ≤ 140737488355328) (hbase : base ≤ w.heap.size)
    (h : ∀ v' w', w'.ownsRow base 3 1 v' (n + m) (intV (l ++ l2)) → w.grownBy w' v.ownBlock → wpList Tryd.prog ops Q rest (a.put o.dst v') w') : wpList Tryd.prog ops Q (o :: rest) a w := by
  obtain ⟨i0', hi, hz0, hz1, hz2⟩ := info_parts Tryd.info3
  obtain ⟨hm, _, hcell, hle, hmax, hnil⟩ := hr
  cases B with
  | none =>
    have hc := hnil rfl
    subst hc
    obtain rfl : m = 0 := by omega
    obtain rfl : l2 = [] := List.length_eq_zero_iff.1 hm
    refine wpList_append_own_none hgd s x 35 ho base 3 i0' 1 Tryd.underlying35 hi v n (intV l) hs hown hx ?_
    refine h v w ?_ ⟨rfl, rfl, rfl, Nat.le_refl _, fun _ _ _ => rfl⟩
    rw [List.append_nil]
    exact hown
  | some ad =>
    refine wpList_append_own w hgd s x 35 ho base 3 i0' (.int .i64 0) 1 8 Tryd.underlying35 hi hz0 hz1 hz2 rfl (by decide) v n (intV l) hs hown ad m c (intV l2) hx (by rw [intV_len, hm]; omega) ?_ (fun u hu => by
      obtain ⟨z, _, rfl⟩ := List.mem_map.1 hu
      rfl) (by unfold maxLen; omega) (by omega) hbase ?_
    · intro j u hj
      have hj2 : j < l2.length := by
        rcases Nat.lt_or_ge j l2.length with hlt | hge
        · exact hlt
        · rw [List.getElem?_eq_none (by rw [intV_len]; exact hge)] at hj; cases hj
      obtain ⟨b, off, e, hc⟩ := hcell (by omega)
      injection e with e
      subst e
      rw [addr_add, hc j (by omega)]
      rw [intV, List.getElem?_map, List.getElem?_eq_getElem hj2] at hj
      rw [List.getD_eq_getElem?_getD, List.getElem?_eq_getElem hj2]
      exact hj
    · intro v' w' h1 h2 _
      exact h v' w' (by rw [intV_append]; exact h1) h2

theorem SgV.grown {w w' : World} {g : Nat} {i k f t : Int} {a b : Value} {row : Option Nat} (h : SgV w g i k f t a b) (hg : w.grownBy w' row) (hne : some g ≠ row) : SgV w' g i k f t a b :=
  h.of (fun j => hg.cell_far ⟨g, j, none⟩ h.lt hne) (fun j => hg.frozen_far ⟨g, j, none⟩ h.lt hne)
/-- Make's loop: the row on the way. -/
structure MkI (w w3 wr : World) (f : Int) (L : List (Int × Int)) (n g cA k : Nat) : Prop where
  own : wr.ownsRow w3.heap.size 28 2 (.slice (some ⟨g, 0, none⟩) n cA) n (sampV (midS f L k))
  below : Below w.heap.size w wr
  sv : SgV wr w.heap.size 0 0 0 0 (.slice none 0 0) (.slice none 0 0)
theorem MkI.step {w w3 wr : World} {f : Int} {L : List (Int × Int)} {n g cA k : Nat} (h : MkI w w3 wr f L n g cA k) (hw : w.heap.size < g) {T V : Int} (hk : k < L.length) (hL : L.getD k (0, 0) = (T, V)) :
    MkI w w3 ((wr.setCell ⟨g, k * 2, none⟩ (.int .i64 (T + f))).setCell ⟨g, k * 2 + 1, none⟩ (.int .i64 (bil V))) f L n g cA (k + 1) := by
  obtain ⟨h1, h2⟩ := h.own.stored (k * 2) (.int .i64 (T + f))
  obtain ⟨h3, h4⟩ := h1.stored (k * 2 + 1) (.int .i64 (bil V))
  rw [sampV_set2 _ _ _ _ (by rw [midS_len]; exact hk), midS_succ f L k T V hk hL] at h3
  refine ⟨h3, (h.below.setCell (Nat.le_of_lt hw) _).setCell (Nat.le_of_lt hw) _, (h.sv.grown h2 ?_).grown h4 ?_⟩
  · intro e
    injection e with e
    omega
  · intro e
    injection e with e
    omega
/-- What a call of Make leaves. -/
def MakeG (w : World) (s : Sg) (n : Nat) : Ending → World → Prop := fun e w' => ∃ A ca, e = .returned (.agg #[.int .i64 s.id, .int .i64 0, .int .i64 s.fr, .int .i64 s.tz, .slice A n ca, .slice none 0 0]) ∧ SegAt w' s A n ca none 0 0 ∧ Raw0 s ∧ Below w.heap.size w w'

set_option maxHeartbeats 2000000 in
theorem make_any {id f : Int} {a0 : Option Addr} {len0 cap0 : Nat} {l0 : List Int} {a1 : Option Addr} {len1 cap1 : Nat} {l1 : List Int} {w : World} (hid : In64 id) (hf : 0 ≤ f ∧ f ≤ 1000000) (s0 : Ints w a0 len0 cap0 l0) (s1 : Ints w a1 len1 cap1 l1) (h8 : len0 * 8 ≤ 140737488351232) :
    Calls Tryd.prog 11 #[.int .i64 id, .int .i64 f, .slice a0 len0 cap0, .slice a1 len1 cap1] w (MakeG w (mkS id f l0 l1 len0 len1) (mkN len0)) := by
  obtain ⟨n, hn⟩ : ∃ n, mkN len0 = n := ⟨_, rfl⟩
  have hn1 := mkN_in len0
  rw [hn] at hn1 ⊢
  obtain ⟨S, hS⟩ : ∃ S, mkS id f l0 l1 len0 len1 = S := ⟨_, rfl⟩
  rw [hS]
  have HS := Lib.hid hS
  have S0 := Lib.hid s0
  have S1 := Lib.hid s1
  have HID := Lib.hid hid
  have H8 := Lib.hid h8
  have HN := Lib.hid hn
  clear s0 s1 hid h8 hn hS
  have hb1 : Below w.heap.size w (w.alloc (.cells #[.int .i64 0, .int .i64 0, .int .i64 0, .int .i64 0, .slice none 0 0, .slice none 0 0] 26)) := below_box _ _
  have hb2 : Below w.heap.size w ((w.alloc (.cells #[.int .i64 0, .int .i64 0, .int .i64 0, .int .i64 0, .slice none 0 0, .slice none 0 0] 26)).alloc (.cells #[.int .i64 id] 3)) := past hb1 (below_box _ _)
  have HO2 : Hid (((w.alloc (.cells #[.int .i64 0, .int .i64 0, .int .i64 0, .int .i64 0, .slice none 0 0, .slice none 0 0] 26)).alloc (.cells #[.int .i64 id] 3)).ownsRow (w.heap.size + 1) 3 1 (.slice (some ⟨w.heap.size + 1, 0, none⟩) 1 1) 1 (intV [id])) := Lib.hid (by
    have := World.ownsRow_lit (base := w.heap.size + 1) (size := 1) (e := 3) (w.alloc (.cells #[.int .i64 0, .int .i64 0, .int .i64 0, .int .i64 0, .slice none 0 0, .slice none 0 0] 26)) #[.int .i64 id] 1 (by simp) (by unfold maxLen; omega) rfl
    simpa [intV] using this)
  have HI2 := Lib.hid (S0.out.below hb2)
  have HB2 := Lib.hid hb2
  clear hb1 hb2
  go_enter Tryd.func11, Tryd.ntmps11
  go_wp2_with (at_builtin; refine wpList_append_ints rfl _ _ rfl (w.heap.size + 1) _ 1 len0 [id] l0 rfl HO2.out a0 cap0 rfl HI2.out ?c1 ?c2 ?_)
  case c1 => have := H8.out; omega
  case c2 => simp
  intro v3 w3 hown hg
  have hown2 : w3.ownsRow (w.heap.size + 1) 3 1 v3 (1 + len0) (intV (id :: l0)) := hown
  obtain ⟨A3, c3, rfl, hi3⟩ := ints_of_own hown2 (fun x hx => by
    rcases List.mem_cons.1 hx with hx | hx
    · rw [hx]
      exact HID.out
    · exact S0.out.2.1 x hx)
  have hb3 : Below w.heap.size w w3 := HB2.out.grown hg HB2.out.size (fun k e => by
    simp only [Value.ownBlock, Option.some.injEq] at e
    omega)
  have HB3 := Lib.hid hb3
  have HZ3 : Hid (w.heap.size < w3.heap.size) := Lib.hid (by have := hg.size; simp at this; omega)
  have HV3 : Hid (SgV w3 w.heap.size 0 0 0 0 (.slice none 0 0) (.slice none 0 0)) := Lib.hid (((SgV.new w 0 0 0 0 (.slice none 0 0) (.slice none 0 0) 26).below (below_box _ _)).grown hg (fun e => by
    simp only [Value.ownBlock, Option.some.injEq] at e
    omega))
  have m3 := rise_any 40 (by omega) hi3 (S1.out.below hb3)
  have hmin : min (1 + len0) 40 = n := by have := HN.out; unfold mkN at this; omega
  rw [hmin] at m3
  have M3 := Lib.hid m3
  clear hown hown2 hg hi3 hb3 m3 hmin HO2 HI2 HB2 H8
  go_wp2_with fail
  refine M3.out.mono ?_
  rintro e w4 ⟨v, T, rfl, hT, hI⟩
  have hR1 := rows1_of hI hT
  have hL : S = madeS (1 + (IntKind.u64.wrap id).tmod 1000) f ((IntKind.u64.wrap id).tmod 7) (riL (id :: l0) l1 len1 n) := by
    rw [← HS.out]
    unfold mkS mkL
    rw [HN.out]
  have hraw : Raw0 (mkS id f l0 l1 len0 len1) := mkS_raw (by unfold mkL; rw [HN.out]; exact hR1) hf
  rw [HS.out] at hraw
  have HRAW := Lib.hid hraw
  obtain ⟨L, hLL⟩ : ∃ L, riL (id :: l0) l1 len1 n = L := ⟨_, rfl⟩
  rw [hLL] at hL hR1 hI
  obtain ⟨g, cA, rfl, hg0⟩ := made_form hI.own (by omega)
  have hgw : w.heap.size < g := Nat.lt_of_lt_of_le HZ3.out hg0
  have HI0 : Hid (MkI w w3 w4 f L n g cA 0) := Lib.hid ⟨by rw [midS_zero]; exact hI.own, past HB3.out hI.below, HV3.out.below hI.below⟩
  have HGW := Lib.hid hgw
  have HR1 := Lib.hid hR1
  have HSL := Lib.hid hL
  have HC : Hid (n ≤ cA ∧ cA ≤ maxLen) := Lib.hid (by
    rcases hI.own.2 with ⟨e, _⟩ | ⟨g', c', cur, e, _, _, h1, h2, _⟩
    · cases e
    · injection e with e1 e2 e3
      subst e3
      exact ⟨h1, h2⟩)
  clear hI hT hR1 hL hraw hLL M3 HV3 HZ3 HB3 hg0 hgw HS
  go_wp2
  go_loopw [10] (fun si wr => ∃ k : Nat, k ≤ n ∧ si = .int .i64 (k : Int) ∧ Hid (MkI w w3 wr f L n g cA k)) (fun si _ => n - (intOf si).toNat)
  case atStart => exact ⟨0, by omega, rfl, HI0⟩
  case round =>
    obtain ⟨k, hk, rfl, HI⟩ := hrel
    by_cases hlt : k < n
    · have hkl : k < L.length := by rw [HR1.out.len]; exact hlt
      have hgt := sampV_get (midS f L k) k (by rw [midS_len]; exact hkl)
      have hc0 := HI.out.own.cellAt (k * 2) (by omega)
      have hc1 := HI.out.own.cellAt (k * 2 + 1) (by omega)
      rw [hgt.1, midS_get f L k hkl] at hc0
      rw [hgt.2, midS_get f L k hkl] at hc1
      have hf0 := HI.out.own.frozenAt (k * 2)
      have hf1 := HI.out.own.frozenAt (k * 2 + 1)
      obtain ⟨T1, V1, hTV⟩ : ∃ T V, L.getD k (0, 0) = (T, V) := ⟨_, _, rfl⟩
      have hT1 := HR1.out.upto (L.getD k (0, 0)) (by
        rw [List.getD_eq_getElem?_getD, List.getElem?_eq_getElem hkl]
        exact List.getElem_mem _)
      have hstep := HI.out.step HGW.out hkl hTV
      rw [hTV] at hc0 hc1 hT1
      simp only at hc0 hc1 hT1
      obtain ⟨X, hXe⟩ : ∃ X, T1 + f = X := ⟨_, rfl⟩
      have hX : IntKind.i64.wrap (T1 + f) = X := by rw [IntKind.wrap_i64]; omega
      have hzv : V1.tmod 1000000000 = bil V1 := rfl
      have hz := bil_lt V1
      generalize bil V1 = Z at hstep hzv hz
      rw [hXe] at hstep
      have HST := Lib.hid hstep
      have i2 : (k : Int) < (n : Int) := by omega
      clear hstep hgt hTV hT1 hXe
      go_wp2
      go_roundw
      case rel => exact ⟨k + 1, by omega, by go_num, HST⟩
      case measure => simp [intOf]; omega
    · obtain rfl : k = n := by omega
      obtain ⟨U, hU⟩ : ∃ U, IntKind.u64.wrap id = U := ⟨_, rfl⟩
      have hsl := HSL.out
      rw [hU] at hsl
      have hU0 : 0 ≤ U := by rw [← hU, IntKind.wrap_u64]; omega
      obtain ⟨x, hx, hx0, hx1⟩ : ∃ x : Int, U.tmod 1000 = x ∧ 0 ≤ x ∧ x < 1000 := ⟨_, rfl, Int.tmod_nonneg 1000 hU0, Int.tmod_lt_of_pos _ (by decide)⟩
      obtain ⟨r, hr, hr0, hr1⟩ : ∃ r : Int, U.tmod 7 = r ∧ 0 ≤ r ∧ r < 7 := ⟨_, rfl, Int.tmod_nonneg 7 hU0, Int.tmod_lt_of_pos _ (by decide)⟩
      rw [hx, hr] at hsl
      have hlen : (shiftL f L).length = k := by rw [shift_len, HR1.out.len]
      have hown := HI.out.own
      have hmid : midS f L k = shiftL f L := by rw [← HR1.out.len]; exact midS_all f L
      rw [hmid] at hown
      have hc := hown.cellAt ((k - 1) * 2) (by omega)
      rw [(sampV_get (shiftL f L) (k - 1) (by omega)).1] at hc
      have hin : In2 (shiftL f L) := by
        rw [← hmid]
        exact midS_in (fun s hs => by have := HR1.out.upto s hs; omega) HR1.out.bits hf k
      obtain ⟨A5, c5, e5, hrow, _, hfr⟩ := row_of_own hown hin
      injection e5 with e5 _ e6
      subst e5 e6
      obtain ⟨E, hE⟩ : ∃ E, lastT (shiftL f L) = E := ⟨_, rfl⟩
      have hE2 : ((shiftL f L).getD (k - 1) (0, 0)).1 = E := by rw [← hE]; unfold lastT; rw [hlen]
      rw [hE2] at hc
      unfold madeS at hsl
      rw [hE] at hsl
      have hm := HRAW.out.may
      have hok := made_ok (id := 1 + x) (f := f) (r := r) (l := L) (by unfold madeS; rw [hE, ← hsl]; exact HRAW.out)
      unfold madeS at hok
      rw [hE, ← hsl] at hok
      have hEb : 0 ≤ E ∧ E + 1 + r ≤ 1099511627776 := by
        have h1 := hm.2.2.1
        rw [hsl] at h1
        simp only at h1
        have h2 := HRAW.out.has.2.2.2.2
        rw [hsl] at h2
        have hne : shiftL f L ≠ [] := fun e => by rw [e] at hlen; simp at hlen; omega
        have h3 := h2 _ (last_mem hne)
        have h4 : ((shiftL f L).getD ((shiftL f L).length - 1) (0, 0)).1 = E := hE
        simp only at h3
        omega
      have w1 : IntKind.u64.wrap x = x := by rw [IntKind.wrap_u64]; omega
      have w2 : IntKind.i64.wrap x = x := by rw [IntKind.wrap_i64]; omega
      have w4 : IntKind.u64.wrap r = r := by rw [IntKind.wrap_u64]; omega
      have w5 : IntKind.i64.wrap r = r := by rw [IntKind.wrap_i64]; omega
      have w6 : IntKind.i64.wrap (1 + x) = 1 + x := by rw [IntKind.wrap_i64]; omega
      have w7 : IntKind.i64.wrap (E + 1) = E + 1 := by rw [IntKind.wrap_i64]; omega
      have w8 : IntKind.i64.wrap (E + 1 + r) = E + 1 + r := by rw [IntKind.wrap_i64]; omega
      have w9 : IntKind.i64.wrap ((k : Int) - 1) = ((k - 1 : Nat) : Int) := by rw [IntKind.wrap_i64]; omega
      have i2 : ¬ (k : Int) < (k : Int) := by omega
      have i3 : (0 : Int) ≤ ((k - 1 : Nat) : Int) := by omega
      have i4 : ((k - 1 : Nat) : Int) < (k : Int) := by omega
      have i5 : (((k - 1 : Nat) : Int)).toNat = k - 1 := by omega
      have HSEG : Hid (SegN wr (w.heap.size + 1) S (some ⟨g, 0, none⟩) k cA none 0 0) := Lib.hid ⟨⟨by rw [hsl]; exact hrow, by rw [hsl]; exact hlen, by rw [hsl]; exact rowOf_nil _, hok⟩, fun a e => by
        injection e with e
        subst e
        exact HGW.out, fun a e => by cases e⟩
      have HE := Lib.hid hsl
      obtain ⟨d0, d1, d2, d3, d4, d5, y0, y1, y2, y3, y4, y5⟩ := HI.out.sv
      clear hsl hown hmid hin hrow hfr hE hE2 hm hok hEb hlen
      go_wp2
      (try simp only [Exit.inBlock, Exit.then])
      refine bodyPost_ret (v := .agg #[.int .i64 (1 + x), .int .i64 0, .int .i64 f, .int .i64 (E + 1 + r), .slice (some ⟨g, 0, none⟩) k cA, .slice none 0 0]) ?_ rfl ?_
      · rw [results_cell_one rfl]
        go_simp
      · refine ⟨some ⟨g, 0, none⟩, cA, ?_, (HSEG.out.set6 (Nat.lt_succ_self _)).at_, HRAW.out, below_set6 HI.out.below (Nat.le_refl _)⟩
        rw [HE.out]
end Go.Proofs.YtepancmkopifpaaDoor
