/-
  The document's own answer for a block's samples: what it returns of every string; nothing that was there is written.
  The document's own answer for windows' bytes: what it returns of every row of windows that may be; nothing that was there is written.
  The document's own answer for windows' bytes, of every row of windows.
-/
import Derived.Test.YtepancmkopifpaaGreatDoorBRBlk
import Derived.Test.YtepancmkopifpaaGreatDoorTRow
namespace Go.Proofs.YtepancmkopifpaaGreatDoor
open Go.RowKit
attribute [local go_sem ↓] Go.wp_at_zero Go.wp_at_succ
set_option linter.unusedVariables false

theorem StrIs.eq {s : ByteArray} {bs : List Nat} (h : StrIs s bs) : s = strB bs := by
  obtain ⟨h1, h2, h3, h4⟩ := h
  have e : s.data.size = (strB bs).data.size := by
    have := strB_size bs
    show s.size = (strB bs).size
    omega
  apply ByteArray.ext
  apply Array.ext e
  intro j a b
  have k1 := h4 j a
  have k2 := strB_get bs h2 j b
  exact UInt8.toNat_inj.1 (k1.trans k2.symm)
theorem strB_inj {a b : List Nat} (ha : ∀ c ∈ a, c < 256) (hb : ∀ c ∈ b, c < 256) (h : strB a = strB b) : a = b := by
  have hl : a.length = b.length := by rw [← strB_size, ← strB_size, h]
  apply List.ext_getElem hl
  intro j h1 h2
  have k1 := strB_get a ha j (by rw [strB_size]; exact h1)
  have k2 := strB_get b hb j (by rw [strB_size]; exact h2)
  have e : ((strB a)[j]'(by rw [strB_size]; exact h1)).toNat = ((strB b)[j]'(by rw [strB_size]; exact h2)).toNat := by
    simp only [h]
  rw [k1, k2] at e
  simpa [h1, h2] using e
theorem own_less {w : World} {base base' n : Nat} {V : Value} {xs : List Value} (h : w.ownsRow base 48 2 V n xs) (hb : base' ≤ base) : w.ownsRow base' 48 2 V n xs := by
  refine ⟨h.1, ?_⟩
  rcases h.2 with h | ⟨g, cap, cur, e, hg, r⟩
  · exact Or.inl h
  · exact Or.inr ⟨g, cap, cur, e, Nat.le_trans hb hg, r⟩
theorem own_form {w : World} {base : Nat} {V : Value} {l : List (Int × Int)} (h : w.ownsRow base 48 2 V l.length (sampV l)) (hi : In2 l) : ∃ A cap, V = .slice A l.length cap ∧ Samps w A l ∧ l.length ≤ cap ∧ cap ≤ maxLen := by
  have h2 := h.2
  rcases h2 with ⟨e, h0⟩ | ⟨g, cap, cur, e, _⟩
  · have hl : l = [] := List.eq_nil_of_length_eq_zero h0
    subst hl
    exact ⟨none, 0, e, ⟨by simp, fun h => absurd h (by simp)⟩, Nat.le_refl _, by unfold maxLen; omega⟩
  · subst e
    have := Samps.own h hi
    exact ⟨_, cap, rfl, this.1, this.2.2.1, this.2.2.2.1⟩
/-- What GetBlock returns. -/
def GetPost (w : World) (r : Option (List (Int × Int))) (e : Ending) (w' : World) : Prop :=
  (match r with
    | none => e = .returned (.tuple #[.slice none 0 0, .int .i64 2])
    | some l => ∃ V, e = .returned (.tuple #[V, .int .i64 0]) ∧ w'.ownsRow w.heap.size 48 2 V l.length (sampV l) ∧ In2 l) ∧ Below w.heap.size w w'

end Go.Proofs.YtepancmkopifpaaGreatDoor
namespace Go.Proofs.YtepancmkopifpaaGreatDoor
open Go.RowKit
attribute [local go_sem ↓] Go.wp_at_zero Go.wp_at_succ
set_option linter.unusedVariables false

theorem wid_three {k : Int} (h : coarse k) : wid k = 5 ∨ wid k = 60 ∨ wid k = 1440 := by
  unfold coarse at h
  unfold wid
  have : k = 1 ∨ k = 2 ∨ k = 3 := by omega
  rcases this with rfl | rfl | rfl <;> simp
theorem al_mod {a : Ag} {k : Int} (hk : coarse k) (hm : a.may) (h : a.fr = flr a.fr k) : a.fr % wid k = 0 := by
  have hb := hm.1
  unfold flr at h
  unfold Ag.begin_ at hb
  split at h
  · omega
  · omega
/-- What the window ahead leaves. -/
def aAhead (W : Int) (l : List Ag) (i : Nat) : Int := match i with | 0 => 0 | j + 1 => (agAt l j).fr / W + 1
def aFrom (W : Int) (l : List Ag) (i : Nat) : List Nat := aOn W (aAhead W l i) (l.drop i)
theorem ag_drop {l : List Ag} {i : Nat} (h : i < l.length) : l.drop i = agAt l i :: l.drop (i + 1) := by
  rw [List.drop_eq_getElem_cons h]
  congr 1
  simp [agAt, h]
theorem aFrom_next {W : Int} {l : List Ag} {i : Nat} (h : i < l.length) : aFrom W l i = aOne W (aAhead W l i) (agAt l i) ++ aFrom W l (i + 1) := by
  unfold aFrom
  rw [ag_drop h, aOn]
  rfl
theorem al_ahead {l : List Ag} {k : Int} {i : Nat} (h : Align l k) (hi : i < l.length) : 0 ≤ aAhead (wid k) l i ∧ aAhead (wid k) l i ≤ (agAt l i).fr / wid k := by
  have hk := h.1
  have h1 := h.2 i hi
  have m1 := al_mod hk h1.1 h1.2.1
  have b1 := h1.1.1
  unfold Ag.begin_ at b1
  match i, hi, h1, m1, b1 with
  | 0, hi, h1, m1, b1 =>
    simp only [aAhead]
    rcases wid_three hk with e | e | e <;> rw [e] <;> omega
  | i + 1, hi, h1, m1, b1 =>
    have h0 := h.2 i (by omega)
    have m0 := al_mod hk h0.1 h0.2.1
    have b0 := h0.1.1
    unfold Ag.begin_ at b0
    have hlt := h1.2.2 (by omega)
    rw [Nat.add_sub_cancel] at hlt
    simp only [aAhead]
    rcases wid_three hk with e | e | e <;> rw [e] at m0 m1 ⊢ <;> omega

/-- What the loop holds. -/
structure APInv (w wr : World) (W : Int) (l : List Ag) (i : Nat) (S : ByteArray) : Prop where
  says : ∃ d : List Nat, S = strB d ∧ putA W l = d ++ bytesOf (aFrom W l i) ∧ d.length ≤ 10 + 70 * i
  below : Below w.heap.size w wr
theorem APInv.next {w wr wr' : World} {W : Int} {l : List Ag} {i : Nat} {S S' : ByteArray} (h : APInv w wr W l i S) {r : List Nat} (hs : aFrom W l i = r ++ aFrom W l (i + 1)) (hr : ∀ m ∈ r, m < 18446744073709551616) (hl : r.length ≤ 7)
    (hS : ∀ d, S = strB d → S' = strB (d ++ bytesOf r)) (hb : Below w.heap.size w wr') : APInv w wr' W l (i + 1) S' := by
  obtain ⟨d, e, e2, hd⟩ := h.says
  refine ⟨⟨d ++ bytesOf r, hS d e, ?_, ?_⟩, hb⟩
  · rw [e2, hs, bytesOf_app]
    simp
  · have := bytesOf_len r hr
    rw [List.length_append]
    omega
theorem sub_nat {x y : Int} (hx : In64 x) (hy : In64 y) (h : y ≤ x) : ∃ N : Nat, (x - y).toNat = N ∧ N < 18446744073709551616 ∧ IntKind.u64.wrap (IntKind.u64.wrap x - IntKind.u64.wrap y) = (N : Int) := by
  refine ⟨_, rfl, ?_, ?_⟩
  · unfold In64 at hx hy
    omega
  · unfold In64 at hx hy
    simp only [IntKind.wrap_u64]
    omega

set_option maxRecDepth 100000 in
set_option maxHeartbeats 4000000 in
theorem rputaggs_in (b off n cap : Nat) (l : List Ag) (k : Int) (w : World) (hl : l.length = n) (hS : Aggs w (some ⟨b, off, none⟩) l) (hc : n ≤ cap) (hm : cap ≤ maxLen) (hok : AOk k l) (hk : In64 k) :
    Calls Tryz.prog 26 #[.slice (some ⟨b, off, none⟩) n cap, .int .i64 k] w fun e w' => e = .returned (.tuple #[.string (strB (putA (wid k) l)), .int .i64 0]) ∧ Below w.heap.size w w' := by
  have m0 := fun w (h : Aggs w (some ⟨b, off, none⟩) l) => raligned_any k hl h hc hm
  rw [decide_eq_true hok.1] at m0
  have M0 := Lib.hid m0
  have M1 := Lib.hid (fun w => refput_any n w (by have := hok.2; omega))
  have mw := fun w => rwidth_any k w hk
  have hn64 : (n : Int) ≤ 64 := by have := hok.2; omega
  have HA := Lib.hid (fun i (hi : i < n) => al_ahead hok.1 (i := i) (by rw [hl]; exact hi))
  have HMAY := Lib.hid (fun i (hi : i < n) => (hok.1.2 i (by rw [hl]; exact hi)).1)
  have HW3 := Lib.hid (wid_three hok.1.1)
  have HS := Lib.hid hS
  have HL := Lib.hid hl
  generalize wid k = W at *
  have MW := Lib.hid mw
  clear m0 hS hok hl hm mw
  go_enter Tryz.func26, Tryz.ntmps26
  go_wp2_with fail
  refine (M0.out _ HS.out).mono ?_
  rintro e w1 ⟨rfl, hb1⟩
  have HB1 := Lib.hid hb1
  clear hb1
  go_wp2_with fail
  refine (M1.out _).mono ?_
  rintro e w2 ⟨rfl, hb2⟩
  have HI0 : Hid (APInv w w2 W l 0 (strB (enc n))) := Lib.hid ⟨⟨enc n, rfl, by unfold putA; rw [bytesOf_cons, HL.out]; rfl, by have := enc_len_le (n := n) (by omega); omega⟩, past HB1.out hb2⟩
  clear hb2 HB1 M0 M1
  generalize strB (enc n) = S0 at *
  go_wp2
  go_loopw [6, 7] (fun s6 s7 wr => ∃ (i : Nat) (S : ByteArray), i ≤ n ∧ s6 = .string S ∧ s7 = .int .i64 (i : Int) ∧ Hid (APInv w wr W l i S)) (fun _ s7 _ => n - (intOf s7).toNat)
  case atStart => exact ⟨0, S0, by omega, rfl, rfl, HI0⟩
  case round =>
    clear HI0
    obtain ⟨i, S, hi, rfl, rfl, HI⟩ := hrel
    have hsz : S.size ≤ 5000 := by
      obtain ⟨d, e, _, hd⟩ := HI.out.says
      rw [e, strB_size]
      omega
    by_cases hlt : i < n
    · have i1 : (i : Int) < (n : Int) := by omega
      have i0 : (0 : Int) ≤ (i : Int) := by omega
      have HC : Hid (∀ w', Below wr.heap.size wr w' → ∀ j, j < n → HoldsAt w' b (off + j * 7) (agAt l j)) := Lib.hid (fun w' hb j hj => by
        have hSu := HS.out.below (past HI.out.below hb)
        obtain ⟨b', o', e, hcc⟩ := hSu.2 (by rw [HL.out]; omega)
        injection e with e
        injection e with e1 e2
        subst e1 e2
        exact hcc j (by rw [HL.out]; exact hj))
      obtain ⟨c0, c1, c2, c3, c4, c5, c6⟩ := HC.out wr (Below.refl _ _) i hlt
      obtain ⟨a, ha⟩ : ∃ a, agAt l i = a := ⟨_, rfl⟩
      rw [ha] at c0 c1 c2 c3 c4 c5 c6
      have HAG := Lib.hid ha
      clear ha
      go_upto_region 8 with fail
      have H3 : Hid (Holds (wr.alloc (.cells #[.int .i64 a.fr, .int .i64 a.cn, .int .i64 a.sm, .int .i64 a.mn, .int .i64 a.mx, .int .i64 a.fi, .int .i64 a.la] 50)) wr.heap.size a) := Lib.hid (by unfold Holds; simp)
      have HB3 : Hid (Below wr.heap.size wr (wr.alloc (.cells #[.int .i64 a.fr, .int .i64 a.cn, .int .i64 a.sm, .int .i64 a.mn, .int .i64 a.mx, .int .i64 a.fi, .int .i64 a.la] 50))) := Lib.hid (past_alloc (Below.refl _ _) _)
      generalize wr.alloc (.cells #[.int .i64 a.fr, .int .i64 a.cn, .int .i64 a.sm, .int .i64 a.mn, .int .i64 a.mx, .int .i64 a.fi, .int .i64 a.la] 50) = w3 at *
      clear c0 c1 c2 c3 c4 c5 c6
      have d0 := H3.out.1
      have hmay := HMAY.out i hlt
      have hah := HA.out i hlt
      rw [HAG.out] at hmay hah
      have hfr := hmay.1
      unfold Ag.begin_ at hfr
      have hW : ¬ W = 0 := by have := HW3.out; omega
      have hW1 : ¬ W = -1 := by have := HW3.out; omega
      have hdiv : a.fr.tdiv W = a.fr / W := Int.tdiv_eq_ediv_of_nonneg hfr.1
      have hq : IntKind.i64.wrap (a.fr.tdiv W) = a.fr / W := by
        rw [hdiv, IntKind.wrap_i64]
        have h3 := HW3.out
        rcases h3 with e | e | e <;> rw [e] <;> omega
      clear hdiv
      obtain ⟨Q, hQ⟩ : ∃ Q, a.fr / W = Q := ⟨_, rfl⟩
      rw [hQ] at hq
      have HQ := Lib.hid hQ
      clear hQ
      go_quiet ((go_at_call 57; exact quiet_same (MW.out _)))
      have HBW : Hid (Below w.heap.size w (w3.drewN nq)) := Lib.hid (past (past HI.out.below HB3.out) (belowN w3 nq))
      have HBR : Hid (Below wr.heap.size wr (w3.drewN nq)) := Lib.hid (past HB3.out (belowN w3 nq))
      have H4 : Hid (Holds (w3.drewN nq) wr.heap.size a) := Lib.hid (H3.out.below (belowN w3 nq))
      clear d0 hq
      generalize w3.drewN nq = w4 at *
      obtain ⟨FN, hFN⟩ : ∃ FN : Nat, (FN : Int) = Q - aAhead W l i := ⟨(Q - aAhead W l i).toNat, by rw [HQ.out] at hah; omega⟩
      have HFN := Lib.hid hFN
      have hFS : FN ≤ 1099511627776 := by
        have e := HQ.out
        have h3 := HW3.out
        have h4 : Q ≤ a.fr := by
          rw [← e]
          rcases h3 with e | e | e <;> rw [e] <;> omega
        omega
      obtain ⟨CN, hCN⟩ : ∃ CN : Nat, (CN : Int) = a.cn - 1 := ⟨(a.cn - 1).toNat, by have := hmay.2.1; unfold Ag.count at this; omega⟩
      have hCS : CN ≤ 1099511627776 := by have := hmay.2.1; unfold Ag.count at this; omega
      have haok := HS.out.1 a (by rw [← HAG.out]; exact agg_mem (by rw [HL.out]; exact hlt))
      have hin := haok.2.2.2.1
      obtain ⟨z1, z2⟩ := zig_nat hin
      have mz := fun w => refzig_any a.mn w hin.1 hin.2
      obtain ⟨ZN, hZN⟩ : ∃ ZN, (zig a.mn).toNat = ZN := ⟨_, rfl⟩
      rw [← z1, hZN] at mz
      rw [hZN] at z2
      have MZ := Lib.hid mz
      have P1 := Lib.hid (fun w => refput_any FN w (by omega))
      have P2 := Lib.hid (fun w => refput_any CN w (by omega))
      have P3 := Lib.hid (fun w => refput_any ZN w z2)
      have l1 : (strB (enc FN)).size ≤ 10 := by rw [strB_size]; exact enc_len_le (by omega)
      have l2 : (strB (enc CN)).size ≤ 10 := by rw [strB_size]; exact enc_len_le (by omega)
      have l3 : (strB (enc ZN)).size ≤ 10 := by rw [strB_size]; exact enc_len_le z2
      have wF : IntKind.u64.wrap (FN : Int) = (FN : Int) := by rw [IntKind.wrap_u64]; omega
      have wC : IntKind.u64.wrap (CN : Int) = (CN : Int) := by rw [IntKind.wrap_u64]; omega
      have wD : IntKind.i64.wrap (a.cn - 1) = (CN : Int) := by rw [← hCN, IntKind.wrap_i64]; omega
      have HSAY : Hid (∀ r, (if 1 < a.cn then [(a.mx - a.mn).toNat, (zig a.sm).toNat, (a.fi - a.mn).toNat, (a.la - a.mn).toNat] else []) = r → aFrom W l i = FN :: CN :: ZN :: (r ++ aFrom W l (i + 1))) := Lib.hid (fun r hr => by
        rw [aFrom_next (by rw [HL.out]; exact hlt), HAG.out]
        unfold aOne
        rw [hr, hZN, HQ.out, ← HFN.out, ← hCN]
        simp)
      have HMY := Lib.hid hmay
      have HOKA := Lib.hid haok
      have hcn : (decide (1 < a.cn)) = decide (1 < a.cn) := rfl
      clear mz z1 hZN hin haok hah hfr hmay hCN
      by_cases hpos : 0 < i
      case' pos =>
        obtain ⟨j, hj⟩ : ∃ j, i = j + 1 := ⟨i - 1, by omega⟩
        have c0 := (HC.out w4 HBR.out j (by omega)).1
        have hf0 := (HMAY.out j (by omega)).1
        obtain ⟨f0, hf⟩ : ∃ f0, (agAt l j).fr = f0 := ⟨_, rfl⟩
        rw [hf] at c0 hf0
        unfold Ag.begin_ at hf0
        obtain ⟨Q0, hQ0⟩ : ∃ Q0, f0 / W = Q0 := ⟨_, rfl⟩
        have hq0 : IntKind.i64.wrap (f0.tdiv W) = Q0 := by
          rw [Int.tdiv_eq_ediv_of_nonneg hf0.1, IntKind.wrap_i64, ← hQ0]
          have h3 := HW3.out
          rcases h3 with e | e | e <;> rw [e] <;> omega
        have hQ0b : 0 ≤ Q0 ∧ Q0 ≤ 1099511627776 := by
          rw [← hQ0]
          have h3 := HW3.out
          rcases h3 with e | e | e <;> rw [e] <;> omega
        have hFe : (FN : Int) = Q - (Q0 + 1) := by
          rw [hFN, hj]
          simp only [aAhead]
          rw [hf, hQ0]
        have hd1 : IntKind.i64.wrap (Q - Q0) = (FN : Int) + 1 := by rw [IntKind.wrap_i64]; omega
        have hd2 : IntKind.i64.wrap ((FN : Int) + 1 - 1) = (FN : Int) := by rw [IntKind.wrap_i64]; omega
        have j1 : IntKind.i64.wrap ((i : Int) - 1) = (j : Int) := by rw [IntKind.wrap_i64]; omega
        have j2 : (0 : Int) ≤ (j : Int) := by omega
        have j3 : (j : Int) < (n : Int) := by omega
        have j4 : (0 : Int) < (i : Int) := by omega
        clear hj hf hQ0 hFe hFN hf0 hQ0b
        go_upto_region 10 with fail
        go_quiet ((go_at_call 57; exact quiet_same (MW.out _)))
        have HBW5 : Hid (Below w.heap.size w (w4.drewN nq)) := Lib.hid (past HBW.out (belowN w4 nq))
        have H5 : Hid (Holds (w4.drewN nq) wr.heap.size a) := Lib.hid (H4.out.below (belowN w4 nq))
        clear c0 hq0 hd1 hd2 j1 j2 j3
        generalize w4.drewN nq = w5 at *
        go_upto_region 11 with fail
      case' neg =>
        have j4 : ¬ (0 : Int) < (i : Int) := by omega
        have hFe : Q = (FN : Int) := by
          have : i = 0 := by omega
          rw [hFN, this]
          simp [aAhead]
        have HBW5 := HBW
        have H5 := H4
        subst hFe
        clear hFN
        generalize w4 = w5 at *
        go_upto_region 11 with fail
      all_goals
        clear HC HBR HB3 H3 H4 HBW HA HMAY HFN HQ MW
        generalize wr.heap.size = A at *
        have D1 : ∀ u : SubB w5, u.w.cell? ⟨A, 1, none⟩ = some (.int .i64 a.cn) := fun u => (H5.out.below u.le).2.1
        have D3 : ∀ u : SubB w5, u.w.cell? ⟨A, 3, none⟩ = some (.int .i64 a.mn) := fun u => (H5.out.below u.le).2.2.2.1
        by_cases hcn1 : 1 < a.cn
        · obtain ⟨XN, x1, x2, x3⟩ := sub_nat HOKA.out.2.2.2.2.1 HOKA.out.2.2.2.1 HMY.out.2.2.1.1.2.2
          obtain ⟨IN, y1, y2, y3⟩ := sub_nat HOKA.out.2.2.2.2.2.1 HOKA.out.2.2.2.1 HMY.out.2.2.1.1.1
          obtain ⟨LN, v1, v2, v3⟩ := sub_nat HOKA.out.2.2.2.2.2.2 HOKA.out.2.2.2.1 HMY.out.2.2.1.1.2.1
          have hsm := HOKA.out.2.2.1
          obtain ⟨s1, s2⟩ := zig_nat hsm
          have ms := fun w => refzig_any a.sm w hsm.1 hsm.2
          obtain ⟨SN, hSN⟩ : ∃ SN, (zig a.sm).toNat = SN := ⟨_, rfl⟩
          rw [← s1, hSN] at ms
          rw [hSN] at s2
          have MS := Lib.hid ms
          have HNX : Hid (∀ wr', Below w.heap.size w wr' → APInv w wr' W l (i + 1) (S ++ strB (enc FN) ++ strB (enc CN) ++ strB (enc ZN) ++ strB (enc XN) ++ strB (enc SN) ++ strB (enc IN) ++ strB (enc LN))) := Lib.hid (fun wr' hb => by
            have e := HSAY.out _ (if_pos hcn1)
            rw [x1, hSN, y1, v1] at e
            refine HI.out.next (r := [FN, CN, ZN, XN, SN, IN, LN]) (by rw [e]; rfl) ?_ (by simp) (fun d hd => ?_) hb
            · intro m hm
              simp only [List.mem_cons, List.not_mem_nil, or_false] at hm
              rcases hm with rfl | rfl | rfl | rfl | rfl | rfl | rfl <;> omega
            · rw [hd]
              simp only [strB_app]
              congr 1
              simp [bytesOf])
          have Q1 := Lib.hid (fun w => refput_any XN w x2)
          have Q2 := Lib.hid (fun w => refput_any SN w s2)
          have Q3 := Lib.hid (fun w => refput_any IN w y2)
          have Q4 := Lib.hid (fun w => refput_any LN w v2)
          have l4 : (strB (enc XN)).size ≤ 10 := by rw [strB_size]; exact enc_len_le x2
          have l5 : (strB (enc SN)).size ≤ 10 := by rw [strB_size]; exact enc_len_le s2
          have l6 : (strB (enc IN)).size ≤ 10 := by rw [strB_size]; exact enc_len_le y2
          have l7 : (strB (enc LN)).size ≤ 10 := by rw [strB_size]; exact enc_len_le v2
          obtain ⟨U3, hU3⟩ : ∃ U, IntKind.u64.wrap a.mn = U := ⟨_, rfl⟩
          obtain ⟨U4, hU4⟩ : ∃ U, IntKind.u64.wrap a.mx = U := ⟨_, rfl⟩
          obtain ⟨U5, hU5⟩ : ∃ U, IntKind.u64.wrap a.fi = U := ⟨_, rfl⟩
          obtain ⟨U6, hU6⟩ : ∃ U, IntKind.u64.wrap a.la = U := ⟨_, rfl⟩
          rw [hU4, hU3] at x3
          rw [hU5, hU3] at y3
          rw [hU6, hU3] at v3
          clear ms s1 hSN hsm x1 y1 v1 x2 y2 v2 s2 z2 hFS hCS HSAY HMY HOKA
          generalize strB (enc FN) = E1 at *
          generalize strB (enc CN) = E2 at *
          generalize strB (enc ZN) = E3 at *
          generalize strB (enc XN) = E4 at *
          generalize strB (enc SN) = E5 at *
          generalize strB (enc IN) = E6 at *
          generalize strB (enc LN) = E7 at *
          refine wp_region_calm (by kernel_rfl) (by kernel_rfl) ?_
          repeat (go_big_quiet_step ((first | (go_at_call 56; exact calm_same (MZ.out _)) | (go_at_call 24; with_reducible exact calm_call (P1.out _)) | (go_at_call 24; with_reducible exact calm_call (P2.out _)) | (go_at_call 24; with_reducible exact calm_call (P3.out _)))))
          refine wpQuiet_nil ?_
          rintro _ ⟨u, rfl⟩
          have H6 : Hid (Holds u.w A a) := Lib.hid (H5.out.below u.le)
          have HBW6 : Hid (Below w.heap.size w u.w) := Lib.hid (past HBW5.out u.le)
          clear D1 D3
          generalize u.w = w6 at *
          have c1 := H6.out.2.1
          have G2 : ∀ u : SubB w6, u.w.cell? ⟨A, 2, none⟩ = some (.int .i64 a.sm) := fun u => (H6.out.below u.le).2.2.1
          have G3 : ∀ u : SubB w6, u.w.cell? ⟨A, 3, none⟩ = some (.int .i64 a.mn) := fun u => (H6.out.below u.le).2.2.2.1
          have G4 : ∀ u : SubB w6, u.w.cell? ⟨A, 4, none⟩ = some (.int .i64 a.mx) := fun u => (H6.out.below u.le).2.2.2.2.1
          have G5 : ∀ u : SubB w6, u.w.cell? ⟨A, 5, none⟩ = some (.int .i64 a.fi) := fun u => (H6.out.below u.le).2.2.2.2.2.1
          have G6 : ∀ u : SubB w6, u.w.cell? ⟨A, 6, none⟩ = some (.int .i64 a.la) := fun u => (H6.out.below u.le).2.2.2.2.2.2
          go_upto_region 13 with fail
          refine wp_region_calm (by kernel_rfl) (by kernel_rfl) ?_
          repeat (go_big_quiet_step ((first | (go_at_call 56; exact calm_same (MS.out _)) | (go_at_call 24; with_reducible exact calm_call (Q1.out _)) | (go_at_call 24; with_reducible exact calm_call (Q2.out _)) | (go_at_call 24; with_reducible exact calm_call (Q3.out _)) | (go_at_call 24; with_reducible exact calm_call (Q4.out _)))))
          refine wpQuiet_nil ?_
          rintro _ ⟨u, rfl⟩
          clear G2 G3 G4 G5 G6 c1
          go_wp2
          go_roundw
          case rel => exact ⟨i + 1, _, by omega, rfl, by go_num, Lib.hid (HNX.out _ (past HBW6.out u.le))⟩
          case measure => simp [intOf]; omega
        · have HNX : Hid (∀ wr', Below w.heap.size w wr' → APInv w wr' W l (i + 1) (S ++ strB (enc FN) ++ strB (enc CN) ++ strB (enc ZN))) := Lib.hid (fun wr' hb => by
            have e := HSAY.out _ (if_neg hcn1)
            refine HI.out.next (r := [FN, CN, ZN]) (by rw [e]; rfl) ?_ (by simp) (fun d hd => ?_) hb
            · intro m hm
              simp only [List.mem_cons, List.not_mem_nil, or_false] at hm
              rcases hm with rfl | rfl | rfl <;> omega
            · rw [hd]
              simp only [strB_app]
              congr 1
              simp [bytesOf])
          clear z2 hFS hCS HSAY HMY HOKA
          generalize strB (enc FN) = E1 at *
          generalize strB (enc CN) = E2 at *
          generalize strB (enc ZN) = E3 at *
          refine wp_region_calm (by kernel_rfl) (by kernel_rfl) ?_
          repeat (go_big_quiet_step ((first | (go_at_call 56; exact calm_same (MZ.out _)) | (go_at_call 24; with_reducible exact calm_call (P1.out _)) | (go_at_call 24; with_reducible exact calm_call (P2.out _)) | (go_at_call 24; with_reducible exact calm_call (P3.out _)))))
          refine wpQuiet_nil ?_
          rintro _ ⟨u, rfl⟩
          have H6 : Hid (Holds u.w A a) := Lib.hid (H5.out.below u.le)
          have HBW6 : Hid (Below w.heap.size w u.w) := Lib.hid (past HBW5.out u.le)
          clear D1 D3
          generalize u.w = w6 at *
          have c1 := H6.out.2.1
          go_wp2
          go_roundw
          case rel => exact ⟨i + 1, _, by omega, rfl, by go_num, Lib.hid (HNX.out _ HBW6.out)⟩
          case measure => simp [intOf]; omega
    · obtain rfl : i = n := by omega
      have HF : Hid (S = strB (putA W l)) := Lib.hid (by
        obtain ⟨d, e, e2, _⟩ := HI.out.says
        have h3 : aFrom W l i = [] := by
          unfold aFrom
          rw [List.drop_eq_nil_of_le (by rw [HL.out]; exact Nat.le_refl _)]
          rfl
        rw [e, e2, h3]
        simp [bytesOf])
      go_wp2
      (try rw [Exit.noGoto_ret])
      go_ret2
      exact ⟨by rw [← HF.out]; rfl, HI.out.below⟩
end Go.Proofs.YtepancmkopifpaaGreatDoor
namespace Go.Proofs.YtepancmkopifpaaGreatDoor
open Go.RowKit
attribute [local go_sem ↓] Go.wp_at_zero Go.wp_at_succ
set_option linter.unusedVariables false

instance (k : Int) (l : List Ag) : Decidable (AOk k l) := by unfold AOk; infer_instance

set_option maxRecDepth 100000 in
theorem rputaggs_none (A : Option Addr) (cap : Nat) (k : Int) (w : World) (hm : cap ≤ maxLen) (hk : coarse k) :
    Calls Tryz.prog 26 #[.slice A 0 cap, .int .i64 k] w fun e w' => e = .returned (.tuple #[.string (strB (putA (wid k) [])), .int .i64 0]) ∧ Below w.heap.size w w' := by
  have m0 := fun w => raligned_any (A := A) (l := []) (len := 0) (cap := cap) (w := w) k rfl ⟨by simp, fun h => absurd h (by simp)⟩ (by omega) hm
  rw [decide_eq_true (show Align [] k from ⟨hk, fun i hi => by simp at hi⟩)] at m0
  have M0 := Lib.hid m0
  have M1 : Hid (∀ w, Calls Tryz.prog 24 #[.int .u64 0] w fun e w' => e = .returned (.string (strB (enc 0))) ∧ Below w.heap.size w w') := Lib.hid (fun w => refput_any 0 w (by decide))
  have HP : Hid (putA (wid k) [] = enc 0) := Lib.hid (by simp [putA, aOn, bytesOf])
  rw [HP.out]
  generalize strB (enc 0) = S0 at *
  clear m0 hm
  go_enter Tryz.func26, Tryz.ntmps26
  go_wp2_with fail
  refine (M0.out _).mono ?_
  rintro e w1 ⟨rfl, hb1⟩
  have HB1 := Lib.hid hb1
  clear hb1
  go_wp2_with fail
  refine (M1.out _).mono ?_
  rintro e w2 ⟨rfl, hb2⟩
  have HB2 : Hid (Below w.heap.size w w2) := Lib.hid (past HB1.out hb2)
  clear hb2
  go_wp2
  refine wp_loop_rounds 1 ?_
  rw [rounds_succ]
  go_wp2
  (try rw [Exit.noGoto_ret])
  go_ret2
  exact ⟨rfl, HB2.out⟩

set_option maxRecDepth 100000 in
theorem rputaggs_not {A : Option Addr} {len cap : Nat} {l : List Ag} {w : World} (k : Int) (hl : l.length = len) (hS : Aggs w A l) (hc : len ≤ cap) (hm : cap ≤ maxLen) (h : ¬ AOk k l) :
    Calls Tryz.prog 26 #[.slice A len cap, .int .i64 k] w fun e w' => e = .returned (.tuple #[.string (strB []), .int .i64 1]) ∧ Below w.heap.size w w' := by
  have m0 := raligned_any k hl hS hc hm
  have HE : Hid (strB [] = ⟨#[]⟩) := Lib.hid rfl
  by_cases hr : Align l k
  · have h64 : (64 : Int) < (len : Int) := by
      have : ¬ l.length ≤ 64 := fun h' => h ⟨hr, h'⟩
      omega
    rw [decide_eq_true hr] at m0
    have M0 := Lib.hid m0
    clear m0 hr h hS hl hc hm
    rw [HE.out]
    go_enter Tryz.func26, Tryz.ntmps26
    go_wp2_with fail
    refine M0.out.mono ?_
    rintro e w1 ⟨rfl, hb1⟩
    have HB1 := Lib.hid hb1
    clear hb1
    go_wp2
    (try rw [Exit.noGoto_ret])
    go_ret2
    exact ⟨rfl, HB1.out⟩
  · rw [decide_eq_false hr] at m0
    have M0 := Lib.hid m0
    clear m0 hr h hS hl hc hm
    rw [HE.out]
    go_enter Tryz.func26, Tryz.ntmps26
    go_wp2_with fail
    refine M0.out.mono ?_
    rintro e w1 ⟨rfl, hb1⟩
    have HB1 := Lib.hid hb1
    clear hb1
    go_wp2
    (try rw [Exit.noGoto_ret])
    go_ret2
    exact ⟨rfl, HB1.out⟩

theorem rputaggs_any {A : Option Addr} {len cap : Nat} {l : List Ag} {w : World} (k : Int) (hl : l.length = len) (hS : Aggs w A l) (hc : len ≤ cap) (hm : cap ≤ maxLen) :
    Calls Tryz.prog 26 #[.slice A len cap, .int .i64 k] w fun e w' => e = .returned (.tuple #[.string (strB (if AOk k l then putA (wid k) l else [])), .int .i64 (if AOk k l then 0 else 1)]) ∧ Below w.heap.size w w' := by
  by_cases h : AOk k l
  · rw [if_pos h, if_pos h]
    have hk := h.1.1
    by_cases h0 : 0 < len
    · obtain ⟨b, off, rfl, _⟩ := hS.2 (by omega)
      exact rputaggs_in b off len cap l k w hl hS hc hm h (by unfold coarse at hk; unfold In64; omega)
    · obtain rfl : len = 0 := by omega
      obtain rfl : l = [] := List.eq_nil_of_length_eq_zero hl
      exact rputaggs_none A cap k w hm hk
  · rw [if_neg h, if_neg h]
    exact rputaggs_not k hl hS hc hm h
end Go.Proofs.YtepancmkopifpaaGreatDoor
