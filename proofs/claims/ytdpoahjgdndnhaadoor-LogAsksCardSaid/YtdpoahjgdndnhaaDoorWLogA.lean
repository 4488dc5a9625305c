/-
  The document's Four, Frame: an entry's frame as a text; nothing that was there is written.
  The document's All: the frames of a row, as a text; nothing that was there is written.
  The document's Read: the entries whose frames stand in bytes; nothing that was there is written.
  The document's Meet, Front, SameEntries: of any two rows; nothing that was there is written.
  The walk of LogAsks: it returns true, and writes nothing that was there.
-/
import Derived.Test.YtdpoahjgdndnhaaDoorLWalk
import Derived.Test.YtdpoahjgdndnhaaDoorDGetE
import Derived.Test.YtdpoahjgdndnhaaDoorUMore
import Derived.Test.YtdpoahjgdndnhaaDoorLAll
import Derived.Test.YtdpoahjgdndnhaaDoorLRead
import Derived.Test.YtdpoahjgdndnhaaDoorERowsW
import Derived.Test.YtdpoahjgdndnhaaDoorLMeet
import Derived.Test.YtdpoahjgdndnhaaDoorLTold
set_option maxRecDepth 100000
namespace Go.Proofs.YtdpoahjgdndnhaaDoor
open Go.RowKit
attribute [local go_sem ↓] Go.wp_at_zero Go.wp_at_succ
set_option linter.unusedVariables false

theorem dfour_any (R : Nat) (w : World) (hlt : R < 4294967296) : Calls Tryd.prog 62 #[.int .u32 (R : Int)] w fun e w' => e = .returned (.string (strB (four R))) ∧ Below w.heap.size w w' := by
  have e : bytesV (four R) = (#[Value.int IntKind.u8 ((R : Int) % 256), Value.int IntKind.u8 ((R : Int) / 256 % 256), Value.int IntKind.u8 ((R : Int) / 65536 % 256), Value.int IntKind.u8 ((R : Int) / 16777216)] : Array Value).toList := by
    unfold bytesV four
    simp only [List.map_cons, List.map_nil]
    have e4 : ((R / 16777216 % 256 : Nat) : Int) = (R : Int) / 16777216 := by omega
    rw [e4]
    simp
  have hown := World.ownsRow_lit (base := w.heap.size) (size := 1) (e := 5) w #[Value.int IntKind.u8 ((R : Int) % 256), Value.int IntKind.u8 ((R : Int) / 256 % 256), Value.int IntKind.u8 ((R : Int) / 65536 % 256), Value.int IntKind.u8 ((R : Int) / 16777216)] 4 (Nat.le_refl _) (by unfold maxLen; omega) rfl
  rw [← e] at hown
  obtain ⟨A, cap, e2, hr, _⟩ := brow_of_own hown (four_byte R)
  injection e2 with e3 _ e4
  subst e3 e4
  have hc := conv_bytes hr.bytes 4 4 hr.len
  clear hown hr e
  generalize strB (four R) = S at *
  go_enter Tryd.func62, Tryd.ntmps62
  go_wp2
  go_ret
  exact ⟨rfl, below_box _ _⟩
set_option maxHeartbeats 4000000 in
theorem dframe_any (e : Ent) (w : World) (he : e.ok) (ht : e.tx.length ≤ 1000000) : Calls Tryd.prog 32 #[e.val] w (DPutPost w e.frame) := by
  have HEB := Lib.hid (EBox.new w e)
  obtain ⟨W1, hW1⟩ : ∃ W1, W1 = w.alloc (.cells #[.int .i64 e.kd, .int .i64 e.vw, .int .i64 e.id, .int .i64 e.tr, .int .i64 e.fr, .int .i64 e.tl, .int .u32 e.sm, .string ⟨e.tx.toArray⟩] 25) := ⟨_, rfl⟩
  have hb1 : Below w.heap.size w W1 := by rw [hW1]; exact below_box _ _
  rw [← hW1] at HEB
  have HW1 := Lib.hid hW1
  have HB1 := Lib.hid hb1
  have M1 := dput_any e W1 he ht
  by_cases hm : e.may
  case neg =>
    have hp : e.put = ([], 1) := by unfold Ent.put; rw [if_neg hm]
    have hfr : e.frame = ([], 1) := by unfold Ent.frame; rw [if_neg hm]
    rw [hp] at M1
    rw [hfr]
    unfold DPutPost Ent.val str at M1
    unfold DPutPost Ent.val str
    simp only at M1
    have HM1 := Lib.hid M1
    clear M1 hW1 hb1 hm hp hfr he ht
    obtain ⟨c0, c1, c2, c3, c4, c5, c6, c7⟩ := HEB.out
    have d0 := c0 ⟨W1, Below.refl _ _⟩
    have d1 := c1 ⟨W1, Below.refl _ _⟩
    have d2 := c2 ⟨W1, Below.refl _ _⟩
    have d3 := c3 ⟨W1, Below.refl _ _⟩
    have d4 := c4 ⟨W1, Below.refl _ _⟩
    have d5 := c5 ⟨W1, Below.refl _ _⟩
    have d6 := c6 ⟨W1, Below.refl _ _⟩
    have d7 := c7 ⟨W1, Below.refl _ _⟩
    simp only [SubB.w] at d0 d1 d2 d3 d4 d5 d6 d7
    go_enter Tryd.func32, Tryd.ntmps32
    go_upto_region 1 with fail
    rw [← HW1.out]
    go_wp2_with fail
    refine HM1.out.mono ?_
    rintro en W3 ⟨rfl, hb3⟩
    have HB3 := Lib.hid (past HB1.out hb3)
    clear hb3 HM1 HB1 d0 d1 d2 d3 d4 d5 d6 d7 c0 c1 c2 c3 c4 c5 c6 c7
    go_wp2
    (try rw [Exit.noGoto_ret])
    go_ret2
    exact ⟨rfl, HB3.out⟩
  case pos =>
    have hp : e.put = (e.bytes, 0) := by unfold Ent.put; rw [if_pos hm]
    have hfr : e.frame = (frm e.bytes, 0) := by unfold Ent.frame; rw [if_pos hm]
    have hsh := bytes_short hm he
    have hby := entB_byte hm
    rw [hp] at M1
    rw [hfr]
    obtain ⟨P, hP⟩ : ∃ P, e.bytes = P := ⟨_, rfl⟩
    rw [hP] at M1 hsh hby ⊢
    obtain ⟨pn, hpn⟩ : ∃ pn, P.length = pn := ⟨_, rfl⟩
    rw [hpn] at hsh
    have hz1 : (strB P).size = pn := by rw [strB_size, hpn]
    have v1 : IntKind.u64.wrap (pn : Int) = (pn : Int) := wrap64u (by omega)
    have M2 := Lib.hid (fun u : World => refput_any pn u (by omega))
    have z2 : (strB (enc pn)).size ≤ 10 := by rw [strB_size]; exact enc_len_le (by omega)
    have h3 : strB (enc pn) ++ strB P = strB (enc pn ++ P) := strB_app _ _
    have hby3 : ∀ c ∈ enc pn ++ P, c < 256 := fun c hc => by
      rcases List.mem_append.1 hc with h | h
      · exact enc_byte _ c h
      · exact hby c h
    have hl3 : (enc pn ++ P).length ≤ 1000 := by rw [List.length_append]; have := enc_len_le (n := pn) (by omega); omega
    obtain ⟨SM, hSM⟩ : ∃ SM, more 1 (enc pn ++ P) = SM := ⟨_, rfl⟩
    have hSM2 : SM < 4294967296 := by rw [← hSM]; exact more32 _ _
    have M3 := fun u : World => refof_any (enc pn ++ P) u hby3 (by omega)
    rw [hSM, ← h3] at M3
    have HM3 := Lib.hid M3
    have M4 := Lib.hid (fun u : World => dfour_any SM u hSM2)
    have z4 : (strB (four SM)).size = 4 := by rw [strB_size]; rfl
    have HF : Hid (strB (enc pn) ++ strB (four SM) ++ strB P = strB (frm P)) := Lib.hid (by
      rw [strB_app, strB_app]
      unfold frm
      rw [hpn, hSM, List.append_assoc])
    unfold DPutPost Ent.val str at M1
    unfold DPutPost Ent.val str
    simp only at M1
    have HM1 := Lib.hid M1
    clear M1 hW1 hb1 hm hp hfr he ht hP hpn hby hby3 hl3 h3 hSM M3
    generalize strB (enc pn) = E1 at *
    generalize strB (four SM) = E2 at *
    generalize strB P = E3 at *
    have n1 : ¬ 9223372036854775807 < E1.size + E3.size := by omega
    have n2 : ¬ 9223372036854775807 < E1.size + E2.size := by omega
    have n3 : ¬ 9223372036854775807 < E1.size + E2.size + E3.size := by omega
    have z5 : (E3.size : Int) = (pn : Int) := by omega
    clear hsh z2 z4
    obtain ⟨c0, c1, c2, c3, c4, c5, c6, c7⟩ := HEB.out
    have d0 := c0 ⟨W1, Below.refl _ _⟩
    have d1 := c1 ⟨W1, Below.refl _ _⟩
    have d2 := c2 ⟨W1, Below.refl _ _⟩
    have d3 := c3 ⟨W1, Below.refl _ _⟩
    have d4 := c4 ⟨W1, Below.refl _ _⟩
    have d5 := c5 ⟨W1, Below.refl _ _⟩
    have d6 := c6 ⟨W1, Below.refl _ _⟩
    have d7 := c7 ⟨W1, Below.refl _ _⟩
    simp only [SubB.w] at d0 d1 d2 d3 d4 d5 d6 d7
    go_enter Tryd.func32, Tryd.ntmps32
    go_upto_region 1 with fail
    rw [← HW1.out]
    go_wp2_with fail
    refine HM1.out.mono ?_
    rintro en W3 ⟨rfl, hb3⟩
    have HB3 := Lib.hid (past HB1.out hb3)
    clear hb3 HM1 HB1 d0 d1 d2 d3 d4 d5 d6 d7 c0 c1 c2 c3 c4 c5 c6 c7
    go_wp2_with fail
    refine (M2.out _).mono ?_
    rintro en W4 ⟨rfl, hb4⟩
    have HB4 := Lib.hid (past HB3.out hb4)
    clear hb4
    go_wp2_with fail
    refine (HM3.out _).mono ?_
    rintro en _ ⟨rfl, rfl⟩
    go_wp2_with fail
    refine (M4.out _).mono ?_
    rintro en W6 ⟨rfl, hb6⟩
    have HB6 := Lib.hid (past HB4.out hb6)
    clear hb6
    go_wp2
    (try rw [Exit.noGoto_ret])
    go_ret2
    exact ⟨by rw [← HF.out]; rfl, HB6.out⟩
end Go.Proofs.YtdpoahjgdndnhaaDoor
set_option maxRecDepth 100000
namespace Go.Proofs.YtdpoahjgdndnhaaDoor
open Go.RowKit
attribute [local go_sem ↓] Go.wp_at_zero Go.wp_at_succ
set_option linter.unusedVariables false

set_option maxHeartbeats 4000000 in
theorem dall_any {A : Option Addr} {n cap : Nat} {l : List Ent} {w : World} (h : EntRow w A n cap l) (hn : n ≤ 200) (ht : ∀ e ∈ l, e.tx.length ≤ 1000000) :
    Calls Tryd.prog 30 #[.slice A n cap] w (DPutPost w (allE l)) := by
  obtain ⟨R, hR⟩ : ∃ R, R = allE l := ⟨_, rfl⟩
  rw [← hR]
  have HR := Lib.hid hR
  have H := Lib.hid h
  have HT := Lib.hid ht
  have HL := Lib.hid h.len
  clear h ht hR
  unfold DPutPost
  go_enter Tryd.func30, Tryd.ntmps30
  go_wp2
  go_loopw [4, 5, 6, 7] (fun s4 s5 s6 s7 wr => ∃ (i : Nat) (S : ByteArray), s4 = .string S ∧ s5 = .int .i64 (i : Int) ∧ i ≤ n ∧ S.size ≤ i * 414 ∧ Hid (S = strB (allB (l.take i)) ∧ ∀ e ∈ l.take i, e.may ∧ e.ok) ∧ Hid (Below w.heap.size w wr)) (fun _ s5 _ _ _ => n - (intOf s5).toNat)
  case atStart => exact ⟨0, ⟨#[]⟩, rfl, rfl, Nat.zero_le _, by simp [ByteArray.size], Lib.hid ⟨rfl, fun e he => by simp at he⟩, Lib.hid (Below.refl _ _)⟩
  case round =>
    obtain ⟨i, S, rfl, rfl, hin, hsz, HS, HB⟩ := hrel
    by_cases hi : i < n
    case pos =>
      have hi' : (i : Int) < (n : Int) := by omega
      have hi0 : (0 : Int) ≤ (i : Int) := by omega
      have hmx := H.out.max
      have hle := H.out.le
      unfold maxLen at hmx
      obtain ⟨b, off, hA, hbl, hcs⟩ := (H.out.below HB.out).cells (by omega)
      obtain ⟨c0, c1, c2, c3, c4, c5, c6, c7⟩ := hcs i hi
      have hlen : i < l.length := by rw [HL.out]; exact hi
      have hok := H.out.ok _ (getD_mem_ent hlen)
      have htx := HT.out _ (getD_mem_ent hlen)
      have HTK : Hid (l.take (i + 1) = l.take i ++ [l.getD i Ent.zero]) := Lib.hid (by
        rw [List.take_succ_eq_append_getElem hlen, List.getD_eq_getElem?_getD, List.getElem?_eq_getElem hlen]; rfl)
      have HAS : Hid (allB (l.take (i + 1)) = allB (l.take i) ++ frm (l.getD i Ent.zero).bytes) := Lib.hid (allB_snoc hlen)
      have HNM : Hid (¬ (l.getD i Ent.zero).may → R = ([], 1)) := Lib.hid (fun h => by
        rw [HR.out]
        unfold allE
        exact if_neg (fun ha => h (ha _ (getD_mem_ent hlen))))
      subst hA
      generalize l.getD i Ent.zero = e at *
      have M1 := dframe_any e wr hok htx
      by_cases hm : e.may
      case neg =>
        have hfr : e.frame = ([], 1) := by unfold Ent.frame; rw [if_neg hm]
        rw [hfr] at M1
        unfold DPutPost Ent.val str at M1
        unfold str at c7
        simp only at M1
        have HRR := Lib.hid (HNM.out hm)
        have HM1 := Lib.hid M1
        clear M1 hfr hm hcs hbl hlen hok htx
        go_wp2_with fail
        refine HM1.out.mono ?_
        rintro en W3 ⟨rfl, hb3⟩
        have HB3 := Lib.hid (past HB.out hb3)
        clear hb3 HM1 c0 c1 c2 c3 c4 c5 c6 c7
        go_wp2
        (try rw [Exit.noGoto_ret])
        go_ret2
        exact ⟨by rw [HRR.out]; rfl, HB3.out⟩
      have hfr : e.frame = (frm e.bytes, 0) := by unfold Ent.frame; rw [if_pos hm]
      have hfl := frm_le hm hok
      rw [hfr] at M1
      unfold DPutPost Ent.val str at M1
      unfold str at c7
      simp only at M1
      obtain ⟨F, hF⟩ : ∃ F, strB (frm e.bytes) = F := ⟨_, rfl⟩
      have hz : F.size ≤ 414 := by rw [← hF, strB_size]; exact hfl
      rw [hF] at M1
      have HS2 : Hid (S ++ F = strB (allB (l.take (i + 1))) ∧ ∀ d ∈ l.take (i + 1), d.may ∧ d.ok) := Lib.hid ⟨by rw [HS.out.1, ← hF, strB_app, HAS.out], fun d hd => by
        rw [HTK.out] at hd
        rcases List.mem_append.1 hd with hd | hd
        · exact HS.out.2 d hd
        · rw [List.mem_singleton] at hd; rw [hd]; exact ⟨hm, hok⟩⟩
      have n1 : ¬ 9223372036854775807 < S.size + F.size := by omega
      have n2 : (S ++ F).size ≤ (i + 1) * 414 := by rw [ByteArray.size_append]; omega
      have HM1 := Lib.hid M1
      clear M1 hfr hm hcs hbl hlen hok htx hfl hF
      go_wp2_with fail
      refine HM1.out.mono ?_
      rintro en W3 ⟨rfl, hb3⟩
      have HB3 := Lib.hid (past HB.out hb3)
      clear hb3 HM1 c0 c1 c2 c3 c4 c5 c6 c7
      have hin2 : i + 1 ≤ n := by omega
      have hib : i + 1 < 4611686018427387904 := by omega
      go_wp2
      go_roundw
      case rel => exact ⟨i + 1, S ++ F, rfl, by go_num, hin2, n2, HS2, HB3⟩
      case measure => simp [intOf]; omega
    case neg =>
      obtain rfl : i = n := by omega
      have hi' : ¬ (i : Int) < (i : Int) := by omega
      have k1 : ¬ (i : Int) > 2000 := by omega
      have htk : l.take i = l := List.take_of_length_le (by rw [HL.out]; exact Nat.le_refl _)
      have HRR : Hid (R = (allB l, 0)) := Lib.hid (by
        rw [HR.out]
        refine allE_ok (fun e he => HS.out.2 e (by rw [htk]; exact he)) (by rw [HL.out]; omega))
      have HSS : Hid (S = strB (allB l)) := Lib.hid (by rw [HS.out.1, htk])
      clear htk
      go_wp2
      (try rw [Exit.noGoto_ret])
      go_ret2
      exact ⟨by rw [HRR.out, HSS.out]; rfl, HB.out⟩
end Go.Proofs.YtdpoahjgdndnhaaDoor
set_option maxRecDepth 100000
namespace Go.Proofs.YtdpoahjgdndnhaaDoor
open Go.RowKit
attribute [local go_sem ↓] Go.wp_at_zero Go.wp_at_succ
set_option linter.unusedVariables false

theorem first_dec {b : List Nat} {v k : Nat} (hd : dec 0 0 b = some (v, k)) : first b = if b.length < k + 4 + v then (Ent.zero, 0) else if frm ((b.drop (k + 4)).take v) = b.take (k + 4 + v) ∧ (getE2 ((b.drop (k + 4)).take v)).2 = 0 then ((getE2 ((b.drop (k + 4)).take v)).1, k + 4 + v) else (Ent.zero, 0) := by
  unfold first
  rw [hd]
theorem first_none {b : List Nat} (hd : dec 0 0 b = none) : first b = (Ent.zero, 0) := by
  unfold first
  rw [hd]
theorem may_len {e : Ent} (h : e.may) : e.tx.length ≤ 300 := by
  obtain ⟨_, ho, hs⟩ := h
  unfold Ent.says at hs
  unfold Ent.own at ho
  split at hs
  · next h1 => rw [if_pos h1] at ho; rw [ho]; simp
  · next h1 =>
    split at hs
    · next h2 => rw [if_neg h1, if_pos h2] at ho; rw [ho]; simp
    · next h2 =>
      split at hs
      · next h3 => rw [if_neg h1, if_neg h2, if_neg (by omega)] at ho; rw [ho]; simp
      · next h3 =>
        split at hs
        · exact hs.1
        · exact hs.elim
theorem own_slc {w : World} {base n size : Nat} {e : TypeId} {v : Value} {xs : List Value} (h : w.ownsRow base e size v n xs) : ∃ A cap, v = .slice A n cap := by
  rcases h.2 with ⟨e1, e0⟩ | ⟨g, cap, cur, e1, _⟩
  · exact ⟨none, 0, by rw [e1, e0]⟩
  · exact ⟨_, cap, e1⟩
theorem entRow_slice {w : World} {base n c : Nat} {A : Option Addr} {l : List Ent} (h : w.ownsRow base 25 8 (.slice A n c) n (entV l)) (hb : ∀ e ∈ l, e.ok) : EntRow w A n c l := by
  obtain ⟨V, cap, e, hr, _⟩ := entRow_own h hb
  injection e with e1 _ e3
  subst e1
  subst e3
  exact hr
set_option maxHeartbeats 8000000 in
theorem dread_any (bs : List Nat) (w : World) (hb : ∀ c ∈ bs, c < 256) (hl : bs.length ≤ 400) : Calls Tryd.prog 31 #[.string (strB bs)] w (ReadLPost w (readL bs)) := by
  obtain ⟨R, hR⟩ : ∃ R, R = readL bs := ⟨_, rfl⟩
  rw [← hR]
  have HR := Lib.hid hR
  have HB := Lib.hid hb
  have HL := Lib.hid hl
  have hsz := strB_size bs
  obtain ⟨n, hn⟩ : ∃ n, bs.length = n := ⟨_, rfl⟩
  have HN := Lib.hid hn
  rw [hn] at hl hsz
  have MG := Lib.hid (fun (p : Nat) (hp : p ≤ bs.length) (u : World) => refget_nat (strB bs) bs p u (strB_size bs) hb (by rw [strB_size]; omega) (by rw [strB_size]; exact hp) (strB_get bs hb))
  have SL := Lib.hid (fun (lo hi : Nat) (h1 : lo ≤ hi) (h2 : hi ≤ bs.length) (u : World) => slice_part bs lo hi h1 h2 (by omega) u)
  obtain ⟨S, hS⟩ : ∃ S, strB bs = S := ⟨_, rfl⟩
  rw [hS] at hsz MG SL ⊢
  have HS := Lib.hid hS
  clear hb hR hn hS
  go_enter Tryd.func31, Tryd.ntmps31
  go_wp2
  go_loopw [4, 5, 6, 7, 8, 9, 10, 11, 12] (fun s4 s5 s6 s7 s8 s9 s10 s11 s12 wr => ∃ (L : List Ent) (p : Nat) (A4 : Option Addr) (c4 : Nat), s4 = .slice A4 L.length c4 ∧ s5 = .int .i64 (p : Int) ∧ p ≤ n ∧ L.length ≤ 2000 ∧ Hid (RI w wr (.slice A4 L.length c4) L p bs)) (fun _ s5 _ _ _ _ _ _ _ _ => n - (intOf s5).toNat)
  case atStart => exact ⟨[], 0, none, 0, rfl, rfl, Nat.zero_le _, Nat.zero_le _, Lib.hid ⟨World.ownsRow_nil _ _ _ _, Below.refl _ _, fun e he => by simp at he, Nat.zero_le _, Nat.zero_le _, by simp⟩⟩
  case round =>
    obtain ⟨L, p, A4, c4, rfl, rfl, hp, hL, HI⟩ := hrel
    have hi0 : (0 : Int) ≤ (p : Int) := by omega
    by_cases hi : p < n
    case neg =>
      have hi' : ¬ (p : Int) < (n : Int) := by omega
      have HF0 : Hid (L.length = 2000 ∨ (first (bs.drop p)).2 = 0) := Lib.hid (.inr (by rw [List.drop_eq_nil_of_le (by rw [HN.out]; omega), first_nil]))
      have HE := HI
      have HRR : Hid (R = (L, p)) := Lib.hid (by rw [HR.out]; exact HE.out.stop HF0.out)
      have HEND : Hid (ReadLPost w R (.returned (.tuple #[.slice A4 L.length c4, .int .i64 (p : Int)])) wr) := Lib.hid (by
        rw [HRR.out]
        exact ⟨A4, c4, rfl, entRow_slice HE.out.own HE.out.ok, HE.out.below⟩)
      clear HRR HF0 HE
      go_wp2
      (try rw [Exit.noGoto_ret])
      go_ret2
      exact HEND.out
    have hi' : (p : Int) < (n : Int) := by omega
    by_cases hL2 : L.length < 2000
    case neg =>
      have hl' : ¬ (L.length : Int) < 2000 := by omega
      have HF0 : Hid (L.length = 2000 ∨ (first (bs.drop p)).2 = 0) := Lib.hid (.inl (by omega))
      have HE := HI
      have HRR : Hid (R = (L, p)) := Lib.hid (by rw [HR.out]; exact HE.out.stop HF0.out)
      have HEND : Hid (ReadLPost w R (.returned (.tuple #[.slice A4 L.length c4, .int .i64 (p : Int)])) wr) := Lib.hid (by
        rw [HRR.out]
        exact ⟨A4, c4, rfl, entRow_slice HE.out.own HE.out.ok, HE.out.below⟩)
      clear HRR HF0 HE
      go_wp2
      (try rw [Exit.noGoto_ret])
      go_ret2
      exact HEND.out
    have hl' : (L.length : Int) < 2000 := by omega
    have M1 := MG.out p (by rw [HN.out]; exact hp) wr
    cases hd : dec 0 0 (bs.drop p) with
    | none =>
      rw [hd] at M1
      unfold getE at M1
      have HM1 := Lib.hid M1
      have HF0 : Hid (L.length = 2000 ∨ (first (bs.drop p)).2 = 0) := Lib.hid (.inr (by rw [first_none hd]))
      have HE := HI
      clear M1 hd
      go_wp2_with fail
      refine HM1.out.mono ?_
      rintro en _ ⟨rfl, rfl⟩
      have HRR : Hid (R = (L, p)) := Lib.hid (by rw [HR.out]; exact HE.out.stop HF0.out)
      have HEND : Hid (ReadLPost w R (.returned (.tuple #[.slice A4 L.length c4, .int .i64 (p : Int)])) wr) := Lib.hid (by
        rw [HRR.out]
        exact ⟨A4, c4, rfl, entRow_slice HE.out.own HE.out.ok, HE.out.below⟩)
      clear HRR HF0 HE
      go_wp2
      (try rw [Exit.noGoto_ret])
      go_ret2
      exact HEND.out
    | some y =>
      obtain ⟨v, k⟩ := y
      rw [hd] at M1
      unfold getE at M1
      simp only at M1
      have HM1 := Lib.hid M1
      have HFD := Lib.hid (first_dec hd)
      obtain ⟨hv64, hk10, hkl⟩ := dec_len (fun c hc => HB.out c (List.mem_of_mem_drop hc)) hd
      rw [List.length_drop, HN.out] at hkl
      have HDL : Hid ((bs.drop p).length = n - p) := Lib.hid (by rw [List.length_drop, HN.out])
      obtain ⟨q, hq⟩ : ∃ q, p + k = q := ⟨_, rfl⟩
      rw [hq] at HM1
      have hqn : q ≤ n := by omega
      have i1 : IntKind.u64.wrap (n : Int) = (n : Int) := wrap64u (by omega)
      clear M1 hd
      by_cases hv : v > n
      case pos =>
        have d1 : (v : Int) > (n : Int) := by omega
        have HF0 : Hid (L.length = 2000 ∨ (first (bs.drop p)).2 = 0) := Lib.hid (.inr (by rw [HFD.out, if_pos (by rw [HDL.out]; omega)]))
        have HE := HI
        clear hv hv64
        go_wp2_with fail
        refine HM1.out.mono ?_
        rintro en _ ⟨rfl, rfl⟩
        have HRR : Hid (R = (L, p)) := Lib.hid (by rw [HR.out]; exact HE.out.stop HF0.out)
        have HEND : Hid (ReadLPost w R (.returned (.tuple #[.slice A4 L.length c4, .int .i64 (p : Int)])) wr) := Lib.hid (by
          rw [HRR.out]
          exact ⟨A4, c4, rfl, entRow_slice HE.out.own HE.out.ok, HE.out.below⟩)
        clear HRR HF0 HE
        go_wp2
        (try rw [Exit.noGoto_ret])
        go_ret2
        exact HEND.out
      have d1 : ¬ (v : Int) > (n : Int) := by omega
      have i2 : IntKind.i64.wrap ((q : Int) + 4) = ((q + 4 : Nat) : Int) := by rw [IntKind.wrap_i64]; omega
      have i3 : IntKind.i64.wrap (v : Int) = (v : Int) := by rw [IntKind.wrap_i64]; omega
      obtain ⟨q4, hq4⟩ : ∃ q4, q + 4 = q4 := ⟨_, rfl⟩
      rw [hq4] at i2
      have i4 : IntKind.i64.wrap ((q4 : Int) + (v : Int)) = ((q4 + v : Nat) : Int) := by rw [IntKind.wrap_i64]; omega
      obtain ⟨qe, hqe⟩ : ∃ qe, q4 + v = qe := ⟨_, rfl⟩
      rw [hqe] at i4
      by_cases hv2 : qe > n
      case pos =>
        have d2 : (qe : Int) > (n : Int) := by omega
        have HF0 : Hid (L.length = 2000 ∨ (first (bs.drop p)).2 = 0) := Lib.hid (.inr (by rw [HFD.out, if_pos (by rw [HDL.out]; omega)]))
        have HE := HI
        clear hv hv2 hv64
        go_wp2_with fail
        refine HM1.out.mono ?_
        rintro en _ ⟨rfl, rfl⟩
        have HRR : Hid (R = (L, p)) := Lib.hid (by rw [HR.out]; exact HE.out.stop HF0.out)
        have HEND : Hid (ReadLPost w R (.returned (.tuple #[.slice A4 L.length c4, .int .i64 (p : Int)])) wr) := Lib.hid (by
          rw [HRR.out]
          exact ⟨A4, c4, rfl, entRow_slice HE.out.own HE.out.ok, HE.out.below⟩)
        clear HRR HF0 HE
        go_wp2
        (try rw [Exit.noGoto_ret])
        go_ret2
        exact HEND.out
      have d2 : ¬ (qe : Int) > (n : Int) := by omega
      have HF1 : Hid (first (bs.drop p) = if frm ((bs.drop q4).take v) = (bs.drop p).take (qe - p) ∧ (getE2 ((bs.drop q4).take v)).2 = 0 then ((getE2 ((bs.drop q4).take v)).1, qe - p) else (Ent.zero, 0)) := Lib.hid (by
        rw [HFD.out, if_neg (by rw [HDL.out]; omega), List.drop_drop, show p + (k + 4) = q4 by omega, show k + 4 + v = qe - p by omega])
      have hsl := fun u => SL.out q4 qe (by omega) (by rw [HN.out]; omega) u
      have hsl2 := fun u => SL.out p qe (by omega) (by rw [HN.out]; omega) u
      rw [show qe - q4 = v by omega] at hsl
      obtain ⟨MID, hMID⟩ : ∃ M, (bs.drop q4).take v = M := ⟨_, rfl⟩
      obtain ⟨PRE, hPRE⟩ : ∃ M, (bs.drop p).take (qe - p) = M := ⟨_, rfl⟩
      rw [hMID] at HF1 hsl
      rw [hPRE] at HF1 hsl2
      have HMB : Hid (∀ c ∈ MID, c < 256) := Lib.hid (fun c hc => HB.out c (by rw [← hMID] at hc; exact List.mem_of_mem_drop (List.mem_of_mem_take hc)))
      have HPB : Hid (∀ c ∈ PRE, c < 256) := Lib.hid (fun c hc => HB.out c (by rw [← hPRE] at hc; exact List.mem_of_mem_drop (List.mem_of_mem_take hc)))
      have hml : MID.length ≤ 400 := by rw [← hMID, List.length_take, List.length_drop, HN.out]; omega
      have M2 := Lib.hid (fun u : World => dget_any MID u HMB.out hml)
      have HML := Lib.hid hml
      unfold GetEPost at M2
      obtain ⟨⟨X, f⟩, hX⟩ : ∃ x, getE2 MID = x := ⟨_, rfl⟩
      have HX := Lib.hid hX
      rw [hX] at M2 HF1
      unfold Ent.val str at M2
      simp only at M2 HF1
      obtain ⟨SM, hSM⟩ : ∃ s, strB MID = s := ⟨_, rfl⟩
      obtain ⟨SP, hSP⟩ : ∃ s, strB PRE = s := ⟨_, rfl⟩
      have HSP := Lib.hid hSP
      rw [hSM] at M2 hsl
      rw [hSP] at hsl2
      have HQ : Hid (p + (qe - p) = qe ∧ p < qe) := Lib.hid (by omega)
      have hqen : qe ≤ n := by omega
      clear hMID hPRE hX hSM hSP hml hkl hk10 hv64 hq hq4 hqe HFD HDL hv hv2 hqn
      have j1 : (0 : Int) ≤ (q4 : Int) := by omega
      go_wp2_with fail
      refine HM1.out.mono ?_
      rintro en _ ⟨rfl, rfl⟩
      go_wp2_with fail
      refine (M2.out _).mono ?_
      rintro en W3 ⟨rfl, hb3⟩
      have hb_ := past hb3 (below_box W3 (.cells #[.int .i64 X.kd, .int .i64 X.vw, .int .i64 X.id, .int .i64 X.tr, .int .i64 X.fr, .int .i64 X.tl, .int .u32 X.sm, .string ⟨X.tx.toArray⟩] 25))
      have HI4 := Lib.hid (HI.out.on hb_)
      have HV4 : Hid (Later (W3.alloc (.cells #[.int .i64 X.kd, .int .i64 X.vw, .int .i64 X.id, .int .i64 X.tr, .int .i64 X.fr, .int .i64 X.tl, .int .u32 X.sm, .string ⟨X.tx.toArray⟩] 25)) fun u => EV u W3.heap.size X) := Lib.hid (fun u hu => EV.below (EV.new W3 X) hu)
      clear hb3 hb_ M2 HM1 HI
      go_upto_region 7 with fail
      generalize W3.alloc (.cells #[.int .i64 X.kd, .int .i64 X.vw, .int .i64 X.id, .int .i64 X.tr, .int .i64 X.fr, .int .i64 X.tl, .int .u32 X.sm, .string ⟨X.tx.toArray⟩] 25) = W4 at *
      generalize W3.heap.size = gx at *
      by_cases hf : f = 0
      case neg =>
        have e2 : (f != 0) = true := by simpa using hf
        have HF0 : Hid (L.length = 2000 ∨ (first (bs.drop p)).2 = 0) := Lib.hid (.inr (by rw [HF1.out, if_neg (fun h => hf h.2)]))
        have HE := HI4
        clear hf
        have HRR : Hid (R = (L, p)) := Lib.hid (by rw [HR.out]; exact HE.out.stop HF0.out)
        have HEND : Hid (ReadLPost w R (.returned (.tuple #[.slice A4 L.length c4, .int .i64 (p : Int)])) W4) := Lib.hid (by
          rw [HRR.out]
          exact ⟨A4, c4, rfl, entRow_slice HE.out.own HE.out.ok, HE.out.below⟩)
        clear HRR HF0 HE
        go_wp2
        (try rw [Exit.noGoto_ret])
        go_ret2
        exact HEND.out
      subst hf
      have hgo := get_only (bs := MID) (by rw [HX.out])
      rw [HX.out] at hgo
      simp only at hgo
      have hXok : X.ok := by
        have h := getE2_ok (bs := MID) HMB.out (by have := HML.out; omega)
        rw [HX.out] at h
        exact h
      have M5 := dframe_any X W4 hXok (by have := may_len hgo.1; omega)
      have hfr : X.frame = (frm MID, 0) := by unfold Ent.frame; rw [if_pos hgo.1, hgo.2]
      rw [hfr] at M5
      unfold DPutPost Ent.val str at M5
      simp only at M5
      have HM5 := Lib.hid M5
      have HXO := Lib.hid (And.intro hXok hgo)
      clear M5 hfr hgo hXok
      have x0 := HV4.out.now.c0
      have x1 := HV4.out.now.c1
      have x2 := HV4.out.now.c2
      have x3 := HV4.out.now.c3
      have x4 := HV4.out.now.c4
      have x5 := HV4.out.now.c5
      have x6 := HV4.out.now.c6
      have x7 := HV4.out.now.c7
      go_wp2_with fail
      refine HM5.out.mono ?_
      rintro en W5 ⟨rfl, hb5⟩
      have HI5 := Lib.hid (HI4.out.on hb5)
      have HV5 := Lib.hid (HV4.out.on hb5)
      have hqs := strB_eq (frm_byte HMB.out) HPB.out
      rw [HSP.out] at hqs
      obtain ⟨SF, hSF⟩ : ∃ s, strB (frm MID) = s := ⟨_, rfl⟩
      rw [hSF] at hqs ⊢
      clear hb5 HM5 x0 x1 x2 x3 x4 x5 x6 x7 HV4 HI4 hSF
      by_cases he : frm MID = PRE
      case neg =>
        rw [decide_eq_false he] at hqs
        have HF0 : Hid (L.length = 2000 ∨ (first (bs.drop p)).2 = 0) := Lib.hid (.inr (by rw [HF1.out, if_neg (fun h => he h.1)]))
        have HE := HI5
        clear he
        have HRR : Hid (R = (L, p)) := Lib.hid (by rw [HR.out]; exact HE.out.stop HF0.out)
        have HEND : Hid (ReadLPost w R (.returned (.tuple #[.slice A4 L.length c4, .int .i64 (p : Int)])) W5) := Lib.hid (by
          rw [HRR.out]
          exact ⟨A4, c4, rfl, entRow_slice HE.out.own HE.out.ok, HE.out.below⟩)
        clear HRR HF0 HE
        go_wp2
        (try rw [Exit.noGoto_ret])
        go_ret2
        exact HEND.out
      rw [decide_eq_true he] at hqs
      have HFX : Hid (first (bs.drop p) = (X, qe - p)) := Lib.hid (by rw [HF1.out, if_pos ⟨he, by first | rfl | trivial⟩])
      clear he HF1
      have x0 := HV5.out.now.c0
      have x1 := HV5.out.now.c1
      have x2 := HV5.out.now.c2
      have x3 := HV5.out.now.c3
      have x4 := HV5.out.now.c4
      have x5 := HV5.out.now.c5
      have x6 := HV5.out.now.c6
      have x7 := HV5.out.now.c7
      have HO5 : Hid ((W5.alloc (.cells #[.int .i64 X.kd, .int .i64 X.vw, .int .i64 X.id, .int .i64 X.tr, .int .i64 X.fr, .int .i64 X.tl, .int .u32 X.sm, .string ⟨X.tx.toArray⟩] 25)).ownsRow w.heap.size 25 8 (.slice A4 L.length c4) L.length (entV L)) := Lib.hid (HI5.out.on (below_box W5 _)).own
      have HB6 : Hid (Below w.heap.size w (W5.alloc (.cells #[.int .i64 X.kd, .int .i64 X.vw, .int .i64 X.id, .int .i64 X.tr, .int .i64 X.fr, .int .i64 X.tl, .int .u32 X.sm, .string ⟨X.tx.toArray⟩] 25))) := Lib.hid (HI5.out.on (below_box W5 _)).below
      have HRX := Lib.hid (row_ent X HXO.out.1 W5 X.kd X.vw X.id X.tr X.fr X.tl X.sm ⟨X.tx.toArray⟩ rfl rfl)
      have HS2 : Hid (L.length + 1 ≤ 100000) := Lib.hid (by omega)
      go_wp2_with (at_builtin; refine wpList_append_ents rfl _ _ rfl w.heap.size (.slice A4 L.length c4) L.length 1 L [X] rfl HO5.out _ _ rfl HRX.out HS2.out HB6.out.size ?_)
      intro v7 w7 hown hg
      have hb7 : Below w.heap.size w w7 := HB6.out.grown hg HB6.out.size (fun k e => (HO5.out.lt k e).1)
      obtain ⟨A7, c7, rfl⟩ := own_slc hown
      have hI7 : RI w w7 (.slice A7 (L.length + 1) c7) (L ++ [X]) qe bs := by
        have hx := HFX.out
        have h := HI5.out.next (v2 := .slice A7 (L.length + 1) c7) hL2 HB.out (by have := HL.out; omega) (by rw [hx]; have := HQ.out; simp only; omega) (by rw [hx]; exact hown) hb7
        rw [hx] at h
        simp only [HQ.out.1] at h
        exact h
      have hlx : (L ++ [X]).length = L.length + 1 := by simp
      have HI7 : Hid (RI w w7 (.slice A7 (L ++ [X]).length c7) (L ++ [X]) qe bs) := Lib.hid (by rw [hlx]; exact hI7)
      have HLX := Lib.hid hlx
      have hL3 : (L ++ [X]).length ≤ 2000 := by omega
      have hqm := HQ.out.2
      clear hown hg hb7 hI7 hlx x0 x1 x2 x3 x4 x5 x6 x7 HO5 HB6 HRX HI5 HV5 hqs hsl hsl2
      go_wp2
      go_roundw
      case rel => exact ⟨L ++ [X], qe, A7, c7, by rw [HLX.out], rfl, hqen, hL3, HI7⟩
      case measure => simp [intOf]; omega
end Go.Proofs.YtdpoahjgdndnhaaDoor
set_option maxRecDepth 100000
namespace Go.Proofs.YtdpoahjgdndnhaaDoor
open Go.RowKit
attribute [local go_sem ↓] Go.wp_at_zero Go.wp_at_succ
set_option linter.unusedVariables false

set_option maxHeartbeats 4000000 in
theorem dmeet_any {A B : Option Addr} {n m ca cb : Nat} {l l2 : List Ent} {w : World} (h1 : EntRow w A n ca l) (h2 : EntRow w B m cb l2) :
    Calls Tryd.prog 37 #[.slice A n ca, .slice B m cb] w fun e w' => e = .returned (.int .i64 (meet l l2 : Int)) ∧ Below w.heap.size w w' := by
  obtain ⟨R, hR⟩ : ∃ R, R = meet l l2 := ⟨_, rfl⟩
  rw [← hR]
  have HR := Lib.hid hR
  have HL := Lib.hid h1.len
  have HL2 := Lib.hid h2.len
  have hm1 := h1.max
  have hm2 := h2.max
  have hc1 := h1.le
  have hc2 := h2.le
  unfold maxLen at hm1 hm2
  have H1 : Hid (∀ u, Below w.heap.size w u → EntRow u A n ca l) := Lib.hid (fun u hu => h1.below hu)
  have H2 : Hid (∀ u, Below w.heap.size w u → EntRow u B m cb l2) := Lib.hid (fun u hu => h2.below hu)
  clear h1 h2 hR
  go_enter Tryd.func37, Tryd.ntmps37
  go_wp2
  go_loopw [5] (fun si wr => ∃ (k : Nat), k ≤ n ∧ k ≤ m ∧ si = .int .i64 (k : Int) ∧ Hid (∀ j, j < k → l.getD j Ent.zero = l2.getD j Ent.zero) ∧ Hid (Below w.heap.size w wr)) (fun si _ => n - (intOf si).toNat)
  case atStart => exact ⟨0, by omega, by omega, rfl, Lib.hid (fun j hj => absurd hj (by omega)), Lib.hid (Below.refl _ _)⟩
  case round =>
    obtain ⟨k, hk, hk2, rfl, HE, HW⟩ := hrel
    by_cases hlt : k < n
    case neg =>
      obtain rfl : k = n := by omega
      have hRk : R = k := by rw [HR.out]; exact meet_is (by rw [HL.out]; omega) (by rw [HL2.out]; omega) HE.out (fun h => by rw [HL.out] at h; omega)
      subst hRk
      go_upto_region 2 with fail
      have HBR : Hid (∀ u : SubB wr, Below w.heap.size w u.w) := Lib.hid (fun u => past HW.out u.le)
      refine wp_region_calm (by kernel_rfl) (by kernel_rfl) ?_
      (try simp only [List.append])
      repeat (go_big_quiet_step (fail))
      refine wpQuiet_nil ?_
      rintro _ ⟨u, rfl⟩
      go_wp2
      (try rw [Exit.noGoto_ret])
      go_ret
      exact ⟨rfl, HBR.out u⟩
    by_cases hlt2 : k < m
    case neg =>
      obtain rfl : k = m := by omega
      have hRk : R = k := by rw [HR.out]; exact meet_is (by rw [HL.out]; omega) (by rw [HL2.out]; omega) HE.out (fun _ h => by rw [HL2.out] at h; omega)
      subst hRk
      go_upto_region 2 with fail
      have HBR : Hid (∀ u : SubB wr, Below w.heap.size w u.w) := Lib.hid (fun u => past HW.out u.le)
      refine wp_region_calm (by kernel_rfl) (by kernel_rfl) ?_
      (try simp only [List.append])
      repeat (go_big_quiet_step (fail))
      refine wpQuiet_nil ?_
      rintro _ ⟨u, rfl⟩
      go_wp2
      (try rw [Exit.noGoto_ret])
      go_ret
      exact ⟨rfl, HBR.out u⟩
    obtain ⟨a, ha⟩ : ∃ a, l.getD k Ent.zero = a := ⟨_, rfl⟩
    obtain ⟨d, hd⟩ : ∃ d, l2.getD k Ent.zero = d := ⟨_, rfl⟩
    obtain ⟨b, off, rfl, c0, c1, c2, c3, c4, c5, c6, c7⟩ := ent_at (H1.out wr HW.out) hlt ha
    obtain ⟨b2, off2, rfl, e0, e1, e2, e3, e4, e5, e6, e7⟩ := ent_at (H2.out wr HW.out) hlt2 hd
    have HA := Lib.hid ha
    have HD := Lib.hid hd
    have i0 : (0 : Int) ≤ (k : Int) := by omega
    have i1 : (k : Int) < (n : Int) := by omega
    have i2 : (k : Int) < (m : Int) := by omega
    clear ha hd
    have hq := ent_eql a d
    unfold Ent.val str at hq
    have HBR : Hid (∀ u : SubB wr, Below w.heap.size w u.w) := Lib.hid (fun u => past HW.out u.le)
    by_cases had : a = d
    · rw [decide_eq_true had] at hq
      have HE2 : Hid (∀ j, j < k + 1 → l.getD j Ent.zero = l2.getD j Ent.zero) := Lib.hid (fun j hj => by
        rcases Nat.lt_or_ge j k with h | h
        · exact HE.out j h
        · obtain rfl : j = k := by omega
          rw [HA.out, HD.out, had])
      clear had
      go_upto_region 2 with fail
      refine wp_region_calm (by kernel_rfl) (by kernel_rfl) ?_
      (try simp only [List.append])
      repeat (go_big_quiet_step (fail))
      refine wpQuiet_nil ?_
      rintro _ ⟨u, rfl⟩
      have HW2 := Lib.hid (HBR.out u)
      clear c0 c1 c2 c3 c4 c5 c6 c7 e0 e1 e2 e3 e4 e5 e6 e7 hq HBR
      generalize u.w = wz at *
      go_wp2
      go_roundw
      case rel => exact ⟨k + 1, by omega, by omega, by go_num, HE2, HW2⟩
      case measure => simp [intOf]; omega
    · rw [decide_eq_false had] at hq
      have hRk : R = k := by
        rw [HR.out]
        exact meet_is (by rw [HL.out]; omega) (by rw [HL2.out]; omega) HE.out (fun _ _ => by rw [HA.out, HD.out]; exact had)
      subst hRk
      clear had
      go_upto_region 2 with fail
      refine wp_region_calm (by kernel_rfl) (by kernel_rfl) ?_
      (try simp only [List.append])
      repeat (go_big_quiet_step (fail))
      refine wpQuiet_nil ?_
      rintro _ ⟨u, rfl⟩
      clear c0 c1 c2 c3 c4 c5 c6 c7 e0 e1 e2 e3 e4 e5 e6 e7 hq
      go_wp2
      (try rw [Exit.noGoto_ret])
      go_ret
      exact ⟨rfl, HBR.out u⟩
set_option maxHeartbeats 1000000 in
theorem dfront_any {A B : Option Addr} {n m ca cb : Nat} {l l2 : List Ent} {w : World} (h1 : EntRow w A n ca l) (h2 : EntRow w B m cb l2) :
    Calls Tryd.prog 35 #[.slice A n ca, .slice B m cb] w fun e w' => e = .returned (.bool (decide (meet l l2 = n))) ∧ Below w.heap.size w w' := by
  have M := Lib.hid (dmeet_any h1 h2)
  clear h1 h2
  generalize meet l l2 = R at *
  by_cases h : R = n
  · rw [decide_eq_true h]
    subst h
    go_enter Tryd.func35, Tryd.ntmps35
    go_wp2_with fail
    refine M.out.mono ?_
    rintro en w2 ⟨rfl, hb⟩
    have HB := Lib.hid hb
    clear hb M
    go_wp2
    go_ret
    exact ⟨rfl, HB.out⟩
  · rw [decide_eq_false h]
    have i1 : ((R : Int) == (n : Int)) = false := by simp; omega
    have i2 : ¬ (R : Int) = (n : Int) := by omega
    clear h
    go_enter Tryd.func35, Tryd.ntmps35
    go_wp2_with fail
    refine M.out.mono ?_
    rintro en w2 ⟨rfl, hb⟩
    have HB := Lib.hid hb
    clear hb M
    go_wp2
    go_ret
    exact ⟨rfl, HB.out⟩
theorem meet_all {l m : List Ent} (h : l.length = m.length) : meet l m = l.length ↔ l = m := by
  constructor
  · intro h2
    refine rows_eq (x := Ent.zero) rfl h.symm (fun j hj => meet_same (by rw [h2]; exact hj))
  · rintro rfl
    have := meet_app l []
    rw [List.append_nil] at this
    exact this
set_option maxHeartbeats 1000000 in
theorem sameE_any {A B : Option Addr} {n m ca cb : Nat} {l l2 : List Ent} {w : World} (h1 : EntRow w A n ca l) (h2 : EntRow w B m cb l2) :
    Calls Tryd.prog 33 #[.slice A n ca, .slice B m cb] w fun e w' => e = .returned (.bool (decide (l = l2))) ∧ Below w.heap.size w w' := by
  have M := Lib.hid (dfront_any h1 h2)
  have hl1 := h1.len
  have hl2 := h2.len
  by_cases h : n = m
  · subst h
    have e : decide (meet l l2 = n) = decide (l = l2) := by
      rw [decide_eq_decide, ← hl1]
      exact meet_all (by omega)
    rw [e] at M
    obtain ⟨D, hD⟩ : ∃ D, decide (l = l2) = D := ⟨_, rfl⟩
    rw [hD] at M
    rw [hD]
    clear h1 h2 hl1 hl2 e hD
    go_enter Tryd.func33, Tryd.ntmps33
    go_wp2_with fail
    refine M.out.mono ?_
    rintro en w2 ⟨rfl, hb⟩
    have HB := Lib.hid hb
    clear hb M
    go_wp2
    go_ret
    exact ⟨rfl, HB.out⟩
  · have hD : decide (l = l2) = false := decide_eq_false (fun e => h (by rw [← hl1, ← hl2, e]))
    rw [hD]
    have i1 : ((n : Int) == (m : Int)) = false := by simp; omega
    have i2 : ¬ (n : Int) = (m : Int) := by omega
    clear h h1 h2 hl1 hl2 hD M
    go_enter Tryd.func33, Tryd.ntmps33
    go_wp2
    go_ret
    exact ⟨rfl, Below.refl _ _⟩
end Go.Proofs.YtdpoahjgdndnhaaDoor
set_option maxRecDepth 100000
namespace Go.Proofs.YtdpoahjgdndnhaaDoor
open Go.RowKit
attribute [local go_sem ↓] Go.wp_at_zero Go.wp_at_succ
set_option linter.unusedVariables false

theorem bytes_few {e : Ent} (ho : e.ok) (ht : e.tx.length ≤ 400) : e.bytes.length ≤ 461 := by
  have hn : ∀ n ∈ e.nums, n < 18446744073709551616 := by
    obtain ⟨h1, h2, h3, h4, h5, h6, h7, h8⟩ := ho
    unfold In64 at h1 h2 h3 h4 h5 h6
    intro n hn
    unfold Ent.nums at hn
    split at hn
    · simp only [List.mem_cons, List.not_mem_nil, or_false] at hn
      rcases hn with rfl | rfl | rfl | rfl | rfl | rfl <;> omega
    · split at hn
      · simp only [List.mem_cons, List.not_mem_nil, or_false] at hn
        rcases hn with rfl | rfl <;> omega
      · split at hn
        · simp only [List.mem_cons, List.not_mem_nil, or_false] at hn
          rcases hn with rfl | rfl <;> omega
        · simp only [List.mem_cons, List.not_mem_nil, or_false] at hn
          subst hn
          omega
  have h1 := numsB_len e.nums hn
  have h2 : e.nums.length ≤ 6 := by unfold Ent.nums; split <;> (try split) <;> (try split) <;> simp
  have h3 : (textB (if e.kd = 4 then e.tx else [])).length ≤ 400 := by
    split
    · simpa [textB] using ht
    · simp [textB]
  unfold Ent.bytes
  rw [List.length_cons, List.length_append]
  omega
theorem allB_few : ∀ {l : List Ent}, (∀ e ∈ l, e.ok) → (∀ e ∈ l, e.tx.length ≤ 400) → (allB l).length ≤ l.length * 475
  | [], _, _ => by simp [allB_nil]
  | e :: l, h, ht => by
    have h1 := bytes_few (h e (List.mem_cons_self ..)) (ht e (List.mem_cons_self ..))
    have h2 := frm_len e.bytes
    have h4 := enc_len_le (n := e.bytes.length) (by omega)
    have h3 := allB_few (l := l) (fun d hd => h d (List.mem_cons_of_mem _ hd)) (fun d hd => ht d (List.mem_cons_of_mem _ hd))
    rw [allB_cons, List.length_append, List.length_cons]
    omega
/-- What is carried along: the arguments. -/
structure LB (w u : World) (A : Option Addr) (n ca : Nat) (l : List Ent) (B : Option Addr) (m cb : Nat) (l2 : List Ent) (D : Option Addr) (k cd : Nat) (bs : List Nat) : Prop where
  row1 : EntRow u A n ca l
  row2 : EntRow u B m cb l2
  brow : BRow u D k cd bs
  nam : Nam u
  pos : 0 < u.heap.size
  below : Below w.heap.size w u
theorem LB.on {w u u' : World} {A : Option Addr} {n ca : Nat} {l : List Ent} {B : Option Addr} {m cb : Nat} {l2 : List Ent} {D : Option Addr} {k cd : Nat} {bs : List Nat} (h : LB w u A n ca l B m cb l2 D k cd bs) (hb : Below u.heap.size u u') : LB w u' A n ca l B m cb l2 D k cd bs :=
  ⟨h.row1.below hb, h.row2.below hb, h.brow.below hb, h.nam.below h.pos hb, Nat.lt_of_lt_of_le h.pos hb.size, past h.below hb⟩
set_option maxHeartbeats 16000000 in
theorem walk_logasks {A : Option Addr} {n ca : Nat} {l : List Ent} {B : Option Addr} {m cb : Nat} {l2 : List Ent} {D : Option Addr} {k cd : Nat} {bs : List Nat} {w : World} (h1 : EntRow w A n ca l) (h2 : EntRow w B m cb l2) (h3 : BRow w D k cd bs) (hw : Nam w) (h0 : 0 < w.heap.size) :
    Calls Tryd.prog 7 #[.slice A n ca, .slice B m cb, .slice D k cd] w fun e w' => e = .returned (.bool true) ∧ Below w.heap.size w w' := by
  have HLB : Hid (LB w w A n ca l B m cb l2 D k cd bs) := Lib.hid ⟨h1, h2, h3, hw, h0, Below.refl _ _⟩
  clear h1 h2 h3 hw h0
  go_enter Tryd.func7, Tryd.ntmps7
  have M1 := Lib.hid (few_any HLB.out.row1)
  go_wp2_with fail
  refine M1.out.mono ?_
  rintro en _ ⟨rfl, rfl⟩
  by_cases hf1 : few l
  case neg =>
    rw [decide_eq_false hf1]
    go_wp2_with fail
    refine (toldL_any w HLB.out.nam HLB.out.pos).mono ?_
    rintro en wt ⟨rfl, hb⟩
    have HBF := Lib.hid (past HLB.out.below hb)
    clear hb
    go_wp2
    (try rw [Exit.noGoto_ret])
    go_ret
    exact ⟨rfl, HBF.out⟩
  rw [decide_eq_true hf1]
  have HF1 := Lib.hid hf1
  clear M1 hf1
  have M2 := Lib.hid (few_any HLB.out.row2)
  go_wp2_with fail
  refine M2.out.mono ?_
  rintro en _ ⟨rfl, rfl⟩
  by_cases hf2 : few l2
  case neg =>
    rw [decide_eq_false hf2]
    go_wp2_with fail
    refine (toldL_any w HLB.out.nam HLB.out.pos).mono ?_
    rintro en wt ⟨rfl, hb⟩
    have HBF := Lib.hid (past HLB.out.below hb)
    clear hb
    go_wp2
    (try rw [Exit.noGoto_ret])
    go_ret
    exact ⟨rfl, HBF.out⟩
  rw [decide_eq_true hf2]
  clear M2 hf2
  by_cases hm : k ≤ 400
  case neg =>
    have k1 : (k : Int) > 400 := by omega
    go_wp2_with fail
    refine (toldL_any w HLB.out.nam HLB.out.pos).mono ?_
    rintro en wt ⟨rfl, hb⟩
    have HBF := Lib.hid (past HLB.out.below hb)
    clear hb
    go_wp2
    (try rw [Exit.noGoto_ret])
    go_ret
    exact ⟨rfl, HBF.out⟩
  have k1 : ¬ (k : Int) > 400 := by omega
  have HM := Lib.hid hm
  have hn60 : n ≤ 60 := by have := HLB.out.row1.len; have := HF1.out.2; omega
  have HTX : Hid (∀ e ∈ l, e.tx.length ≤ 400) := Lib.hid HF1.out.1
  have M3 := all_log HLB.out.row1 (by have := allB_few HLB.out.row1.ok HTX.out; have := HLB.out.row1.len; omega) HLB.out.nam HLB.out.pos
  obtain ⟨⟨P, f⟩, hP⟩ : ∃ x, allE l = x := ⟨_, rfl⟩
  have HP := Lib.hid hP
  rw [hP] at M3
  unfold PutEPost at M3
  simp only at M3
  have HM3 := Lib.hid M3
  clear M3 hP hm
  go_wp2_with fail
  refine HM3.out.mono ?_
  rintro en W3 ⟨A3, c3, rfl, hr3, hb3, _⟩
  have HLB3 := Lib.hid (HLB.out.on hb3)
  have HX3 : Hid (Later W3 fun u => BRow u A3 P.length c3 P) := Lib.hid (fun u hu => hr3.below hu)
  clear hr3 hb3 HM3 HLB k1
  have M4 := dall_any HLB3.out.row1 (by omega) (fun e he => by have := HTX.out e he; omega)
  rw [HP.out] at M4
  unfold DPutPost at M4
  simp only at M4
  have HM4 := Lib.hid M4
  clear M4
  go_wp2_with fail
  refine HM4.out.mono ?_
  rintro en W4 ⟨rfl, hb4⟩
  have HLB4 := Lib.hid (HLB3.out.on hb4)
  have HX4 := Lib.hid (HX3.out.on hb4)
  clear hb4 HM4 HLB3 HX3
  have M5 := read_log HLB4.out.brow (by have := HM.out; omega) HLB4.out.nam HLB4.out.pos
  obtain ⟨⟨V, at_⟩, hV⟩ : ∃ x, readL bs = x := ⟨_, rfl⟩
  have HV := Lib.hid hV
  rw [hV] at M5
  unfold ReadLPost at M5
  simp only at M5
  have HM5 := Lib.hid M5
  clear M5 hV
  go_wp2_with fail
  refine HM5.out.mono ?_
  rintro en W5 ⟨A5, c5, rfl, hr5, hb5⟩
  have HLB5 := Lib.hid (HLB4.out.on hb5)
  have HX5 := Lib.hid (HX4.out.on hb5)
  have HU5 : Hid (Later W5 fun u => EntRow u A5 V.length c5 V) := Lib.hid (fun u hu => hr5.below hu)
  clear hb5 hr5 HM5 HLB4 HX4
  have cv := conv_bytes HLB5.out.brow.bytes k cd HLB5.out.brow.len
  have M6 := dread_any bs W5 HLB5.out.brow.bytes.1 (by have := HM.out; have := HLB5.out.brow.len; omega)
  rw [HV.out] at M6
  unfold ReadLPost at M6
  simp only at M6
  have HM6 := Lib.hid M6
  clear M6
  go_wp2_with fail
  refine HM6.out.mono ?_
  rintro en W6 ⟨A6, c6, rfl, hr6, hb6⟩
  have HLB6 := Lib.hid (HLB5.out.on hb6)
  have HX6 := Lib.hid (HX5.out.on hb6)
  have HU6 := Lib.hid (HU5.out.on hb6)
  have HV6 : Hid (Later W6 fun u => EntRow u A6 V.length c6 V) := Lib.hid (fun u hu => hr6.below hu)
  clear hb6 hr6 HM6 HLB5 HX5 HU5 cv
  go_wp2
  go_loopw [15, 16, 17, 18, 19] (fun s15 s16 s17 s18 s19 wr => ∃ (i : Nat), s15 = .int .i64 (i : Int) ∧ i ≤ n ∧ Hid (Below W6.heap.size W6 wr)) (fun s15 _ _ _ _ _ => n - (intOf s15).toNat)
  case atStart => exact ⟨0, rfl, Nat.zero_le _, Lib.hid (Below.refl _ _)⟩
  case round =>
    obtain ⟨i, rfl, hin, HB⟩ := hrel
    by_cases hi : i < n
    case pos =>
      have hi' : (i : Int) < (n : Int) := by omega
      have hi0 : (0 : Int) ≤ (i : Int) := by omega
      have HLW := Lib.hid (HLB6.out.on HB.out)
      have hmx := HLW.out.row1.max
      have hle := HLW.out.row1.le
      unfold maxLen at hmx
      obtain ⟨b, off, hA, hbl, hcs⟩ := HLW.out.row1.cells (by omega)
      obtain ⟨c0, c1, c2, c3_, c4, c5_, c6_, c7⟩ := hcs i hi
      have hlen : i < l.length := by rw [HLW.out.row1.len]; exact hi
      have hok := HLW.out.row1.ok _ (getD_mem_ent hlen)
      have htx := HTX.out _ (getD_mem_ent hlen)
      have HCE : Hid (∀ u, Below wr.heap.size wr u → ∀ q v, wr.cell? ⟨b, q, none⟩ = some v → u.cell? ⟨b, q, none⟩ = some v) := Lib.hid (fun u hu q v h => by rw [hu.cell hbl]; exact h)
      subst hA
      generalize l.getD i Ent.zero = e at *
      have M7 := frame_ent e wr hok HLW.out.nam HLW.out.pos
      have N7 := Lib.hid (fun u : World => dframe_any e u hok (by omega))
      obtain ⟨⟨Q, g⟩, hQ⟩ : ∃ x, e.frame = x := ⟨_, rfl⟩
      rw [hQ] at M7 N7
      unfold PutEPost Ent.val str at M7
      unfold DPutPost Ent.val str at N7
      unfold str at c7
      simp only at M7 N7
      have HM7 := Lib.hid M7
      clear M7 hQ hok htx hlen hcs hbl
      go_wp2_with fail
      refine HM7.out.mono ?_
      rintro en W7 ⟨A7, cc7, rfl, hr7, hb7, _⟩
      have HLW7 := Lib.hid (HLW.out.on hb7)
      have HB7 := Lib.hid (past HB.out hb7)
      have HX7 : Hid (Later W7 fun u => BRow u A7 Q.length cc7 Q) := Lib.hid (fun u hu => hr7.below hu)
      have d0 := HCE.out W7 hb7 _ _ c0
      have d1 := HCE.out W7 hb7 _ _ c1
      have d2 := HCE.out W7 hb7 _ _ c2
      have d3 := HCE.out W7 hb7 _ _ c3_
      have d4 := HCE.out W7 hb7 _ _ c4
      have d5 := HCE.out W7 hb7 _ _ c5_
      have d6 := HCE.out W7 hb7 _ _ c6_
      have d7 := HCE.out W7 hb7 _ _ c7
      clear hr7 hb7 HM7 HLW c0 c1 c2 c3_ c4 c5_ c6_ c7
      go_wp2_with fail
      refine (N7.out _).mono ?_
      rintro en W8 ⟨rfl, hb8⟩
      have HB8 := Lib.hid (past HB7.out hb8)
      have cv := conv_bytes (HX7.out W8 hb8).bytes Q.length cc7 rfl
      have hin2 : i + 1 ≤ n := by omega
      have hib : i + 1 < 4611686018427387904 := by omega
      clear d0 d1 d2 d3 d4 d5 d6 d7 hb8 N7 HLW7 HCE HX7
      generalize strB Q = SQ at *
      go_wp2
      go_roundw
      case rel => exact ⟨i + 1, by go_num, hin2, HB8⟩
      case measure => simp [intOf]; omega
    case neg =>
      obtain rfl : i = n := by omega
      have hi' : ¬ (i : Int) < (i : Int) := by omega
      have HLW := Lib.hid (HLB6.out.on HB.out)
      have HXW := Lib.hid (HX6.out.on HB.out)
      have HUW := Lib.hid (HU6.out.on HB.out)
      have HVW := Lib.hid (HV6.out.on HB.out)
      clear HLB6 HX6 HU6 HV6 HB HM HTX HP HV HF1
      go_wp2_with fail
      refine (toldL_any wr HLW.out.nam HLW.out.pos).mono ?_
      rintro en W11 ⟨rfl, hb11⟩
      have HL11 := Lib.hid (HLW.out.on hb11)
      have HU11 := Lib.hid (HUW.out.on hb11)
      have HV11 := Lib.hid (HVW.out.on hb11)
      have cv := conv_bytes (HXW.out.on hb11).now.bytes P.length c3 rfl
      have MS := sameE_any HU11.out.now HV11.out.now
      rw [decide_eq_true rfl] at MS
      have HMS := Lib.hid MS
      clear MS hb11 HLW HUW HVW HXW
      generalize strB P = SP at *
      go_wp2_with fail
      refine HMS.out.mono ?_
      rintro en W12 ⟨rfl, hb12⟩
      have HL12 := Lib.hid (HL11.out.on hb12)
      clear hb12 HMS HL11 HU11 HV11 cv
      have M1 := Lib.hid (front_any HL12.out.row1 HL12.out.row2)
      have N1 := fun (u : World) (hu : Below W12.heap.size W12 u) => dfront_any (HL12.out.on hu).row1 (HL12.out.on hu).row2
      obtain ⟨BF, hBF⟩ : ∃ b, decide (meet l l2 = i) = b := ⟨_, rfl⟩
      rw [hBF] at M1
      simp only [hBF] at N1
      have HN1 := Lib.hid N1
      clear N1 hBF
      go_wp2_with fail
      refine M1.out.mono ?_
      rintro en W13 ⟨rfl, hb13⟩
      have HL13 := Lib.hid (HL12.out.on hb13)
      have M2 := Lib.hid (HN1.out W13 hb13)
      clear hb13 M1 HN1 HL12
      go_wp2_with fail
      refine M2.out.mono ?_
      rintro en W14 ⟨rfl, hb14⟩
      have HL14 := Lib.hid (HL13.out.on hb14)
      clear hb14 M2 HL13
      have M1 := Lib.hid (meet_any HL14.out.row1 HL14.out.row2)
      have N1 := Lib.hid (fun (u : World) (hu : Below W14.heap.size W14 u) => dmeet_any (HL14.out.on hu).row1 (HL14.out.on hu).row2)
      generalize meet l l2 = MT at *
      go_wp2_with fail
      refine M1.out.mono ?_
      rintro en W15 ⟨rfl, hb15⟩
      have HL15 := Lib.hid (HL14.out.on hb15)
      have M2 := Lib.hid (N1.out W15 hb15)
      clear hb15 M1 N1 HL14
      go_wp2_with fail
      refine M2.out.mono ?_
      rintro en W16 ⟨rfl, hb16⟩
      have HEND := Lib.hid (past HL15.out.below hb16)
      clear hb16 M2 HL15
      go_wp2
      (try rw [Exit.noGoto_ret])
      go_ret
      exact ⟨rfl, HEND.out⟩
end Go.Proofs.YtdpoahjgdndnhaaDoor
