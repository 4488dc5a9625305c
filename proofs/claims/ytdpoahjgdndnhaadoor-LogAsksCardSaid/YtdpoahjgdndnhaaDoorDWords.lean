/-
  The document's own number, names and words of a line: what each returns; nothing that was there is written.
  The document's own words of a line: a row of the call's own; nothing that was there is written.
-/
import Derived.Test.YtdpoahjgdndnhaaDoorPWords
import Derived.Test.YtdpoahjgdndnhaaDoorCalm
set_option maxRecDepth 100000
namespace Go.Proofs.YtdpoahjgdndnhaaDoor
open Go.RowKit
attribute [local go_sem ↓] Go.wp_at_zero Go.wp_at_succ
set_option linter.unusedVariables false

theorem str_at (l : List UInt8) (j : Nat) (h : j < (⟨l.toArray⟩ : ByteArray).size) : ((⟨l.toArray⟩ : ByteArray)[j]'h).toNat = (l.getD j 0).toNat := by
  have h2 : j < l.length := h
  rw [List.getD_eq_getElem?_getD, List.getElem?_eq_getElem h2]
  rfl
theorem drop_get {l : List UInt8} {k : Nat} (h : k < l.length) : l.drop k = l.getD k 0 :: l.drop (k + 1) := by
  rw [List.drop_eq_getElem_cons h, List.getD_eq_getElem?_getD, List.getElem?_eq_getElem h]
  rfl
def lenT : Value → Nat
  | .int _ n => n.toNat
  | _ => 0
set_option maxHeartbeats 4000000 in
theorem refnumber_any (l : List UInt8) (w : World) (hl : l.length < 4611686018427387904) : Calls Tryd.prog 90 #[str l] w fun e w' => e = .returned (.int .i64 ((num l).getD (-1))) ∧ w = w' := by
  obtain ⟨R, hR⟩ : ∃ R, R = (num l).getD (-1) := ⟨_, rfl⟩
  rw [← hR]
  have hx := str_at l
  have hsz : (⟨l.toArray⟩ : ByteArray).size = l.length := rfl
  have HR := Lib.hid hR
  unfold str
  clear hR
  by_cases h1 : l.length < 1
  · have hRR : R = -1 := by rw [HR.out]; unfold num; rw [if_neg (by omega)]; rfl
    generalize (⟨l.toArray⟩ : ByteArray) = t at *
    have i1 : (t.size : Int) < 1 := by omega
    subst hRR
    clear hx HR hsz h1
    go_enter Tryd.func90, Tryd.ntmps90
    go_wp2
    go_ret
    exact ⟨rfl, rfl⟩
  by_cases h2 : 13 < l.length
  · have hRR : R = -1 := by rw [HR.out]; unfold num; rw [if_neg (by omega)]; rfl
    generalize (⟨l.toArray⟩ : ByteArray) = t at *
    have i1 : ¬ (t.size : Int) < 1 := by omega
    have i2 : (t.size : Int) > 13 := by omega
    subst hRR
    clear hx HR hsz h1
    go_enter Tryd.func90, Tryd.ntmps90
    go_wp2
    go_ret
    exact ⟨rfl, rfl⟩
  have HN : Hid (R = (numOn 0 l).getD (-1)) := Lib.hid (by rw [HR.out]; unfold num; rw [if_pos (by omega)])
  have HX := Lib.hid hx
  have HSZ := Lib.hid hsz
  have h13 : l.length ≤ 13 := by omega
  generalize (⟨l.toArray⟩ : ByteArray) = t at *
  have hts : t.size ≤ 13 := by omega
  have i1 : ¬ (t.size : Int) < 1 := by omega
  have i2 : ¬ (t.size : Int) > 13 := by omega
  clear hx hsz HR
  go_enter Tryd.func90, Tryd.ntmps90
  go_wp2
  clear i1 i2
  go_loop [3, 4] (fun sn si => ∃ (k n : Nat), k ≤ t.size ∧ si = .int .i64 (k : Int) ∧ sn = .int .i64 (n : Int) ∧ n < 10 ^ k ∧ Hid (R = (numOn (n : Int) (l.drop k)).getD (-1))) (fun _ si => t.size - (lenT si))
  case atStart => exact ⟨0, 0, by omega, rfl, rfl, by decide, Lib.hid (by rw [HN.out]; rfl)⟩
  case round =>
    obtain ⟨k, n, hk, rfl, rfl, hn, HD⟩ := hrel
    by_cases hlt : k < t.size
    · have hcl := HX.out k hlt
      have hdr := drop_get (l := l) (k := k) (by rw [← HSZ.out]; exact hlt)
      have hp : 10 ^ k ≤ 10 ^ 12 := Nat.pow_le_pow_right (by decide) (by omega)
      have hp2 : (10 : Nat) ^ 12 = 1000000000000 := by decide
      have hps : 10 ^ (k + 1) = 10 * 10 ^ k := by rw [Nat.pow_succ]; omega
      rw [hp2] at hp
      generalize 10 ^ k = P at *
      obtain ⟨c0, hc0⟩ : ∃ c0, l.getD k 0 = c0 := ⟨_, rfl⟩
      rw [hc0] at hcl hdr
      have hc256 : c0.toNat < 256 := c0.toNat_lt
      obtain ⟨c, hc⟩ : ∃ c, c0.toNat = c := ⟨_, rfl⟩
      rw [hc] at hcl hc256
      have HDR := Lib.hid hdr
      have HC := Lib.hid hc
      have i1 : (k : Int) < (t.size : Int) := by omega
      have i0 : (0 : Int) ≤ (k : Int) := by omega
      clear hdr hc hp2 hc0
      by_cases d1 : c < 48
      · have hRR : R = -1 := by
          rw [HD.out, HDR.out, numOn, if_neg]
          · rfl
          · unfold dig; rw [HC.out]; simp; omega
        have q1 : (c : Int) < 48 := by omega
        subst hRR
        clear HD HDR HC HN hps
        go_wp2
        go_ret
        exact ⟨rfl, rfl⟩
      by_cases d2 : 57 < c
      · have hRR : R = -1 := by
          rw [HD.out, HDR.out, numOn, if_neg]
          · rfl
          · unfold dig; rw [HC.out]; simp; omega
        have q1 : ¬ (c : Int) < 48 := by omega
        have q2 : (c : Int) > 57 := by omega
        subst hRR
        clear HD HDR HC HN hps
        go_wp2
        go_ret
        exact ⟨rfl, rfl⟩
      have q1 : ¬ (c : Int) < 48 := by omega
      have q2 : ¬ (c : Int) > 57 := by omega
      obtain ⟨m, hm⟩ : ∃ m : Nat, m = n * 10 + (c - 48) := ⟨_, rfl⟩
      obtain ⟨d, hd⟩ : ∃ d : Nat, d = c - 48 := ⟨_, rfl⟩
      obtain ⟨n10, hn10⟩ : ∃ x : Nat, x = n * 10 := ⟨_, rfl⟩
      have j1 : IntKind.i64.wrap ((n : Int) * 10) = (n10 : Int) := by rw [IntKind.wrap_i64]; omega
      have j2 : IntKind.u8.wrap ((c : Int) - 48) = (d : Int) := by rw [IntKind.wrap_u8]; omega
      have j3 : IntKind.i64.wrap (d : Int) = (d : Int) := by rw [IntKind.wrap_i64]; omega
      have j4 : IntKind.i64.wrap ((n10 : Int) + (d : Int)) = (m : Int) := by rw [IntKind.wrap_i64]; omega
      have HD2 : Hid (R = (numOn (m : Int) (l.drop (k + 1))).getD (-1)) := Lib.hid (by
        rw [HD.out, HDR.out, numOn, if_pos, HC.out, show (10 : Int) * (n : Int) + ((c : Int) - 48) = (m : Int) by omega]
        unfold dig; rw [HC.out]; simp; omega)
      have hmb : m < 10 ^ (k + 1) := by rw [hps]; omega
      have HMB := Lib.hid hmb
      clear HD HDR HC hm hd hn10 hmb hps hp
      go_wp2
      go_round
      case rel => exact ⟨k + 1, m, by omega, by go_num, rfl, HMB.out, HD2⟩
      case measure => simp [lenT]; omega
    · have hRR : R = (n : Int) := by
        rw [HD.out, List.drop_eq_nil_of_le (by rw [← HSZ.out]; omega)]; rfl
      have i1 : ¬ (k : Int) < (t.size : Int) := by omega
      clear HD HN
      subst hRR
      go_wp2
      go_ret
      exact ⟨rfl, rfl⟩
def NamesPost (w : World) (e : Ending) (w' : World) : Prop := ∃ g, e = .returned (.slice (some ⟨g, 0, none⟩) 4 4) ∧ w.heap.size ≤ g ∧ g < w'.heap.size ∧ (∀ i, i < 4 → w'.cell? ⟨g, i, none⟩ = some (str (nameAt i))) ∧ Below w.heap.size w w'
theorem names_any (w : World) : Calls Tryd.prog 91 #[] w (NamesPost w) := by
  go_enter Tryd.func91, Tryd.ntmps91
  go_wp2
  go_ret
  refine ⟨w.heap.size, rfl, Nat.le_refl _, by simp, fun i hi => ?_, (Below.refl _ _).alloc (Nat.le_refl _) _⟩
  match i, hi with
  | 0, _ => simp [nameAt, str]
  | 1, _ => simp [nameAt, str]
  | 2, _ => simp [nameAt, str]
  | 3, _ => simp [nameAt, str]
end Go.Proofs.YtdpoahjgdndnhaaDoor
set_option maxRecDepth 100000
namespace Go.Proofs.YtdpoahjgdndnhaaDoor
open Go.RowKit
attribute [local go_sem ↓] Go.wp_at_zero Go.wp_at_succ
set_option linter.unusedVariables false

/-- All the words of a line. -/
def wordsAll (l : List UInt8) : List (List UInt8) := wordsB (cut1 35 l).1
theorem words_all (l : List UInt8) : words l = (wordsAll l).take 4 := rfl
def pushW (cur : List UInt8) : List (List UInt8) := if cur = [] then [] else [cur]
def wOn : List UInt8 → List UInt8 → List (List UInt8)
  | cur, [] => pushW cur
  | cur, c :: r => if c = 35 then pushW cur else if c = 32 then pushW cur ++ wOn [] r else wOn (cur ++ [c]) r
theorem filter_push (cur : List UInt8) (ps : List (List UInt8)) : (cur :: ps).filter (fun x => !x.isEmpty) = pushW cur ++ ps.filter (fun x => !x.isEmpty) := by
  rw [List.filter_cons]
  cases cur <;> simp [pushW]
theorem wOn_is : ∀ (l cur : List UInt8), ∃ h t, pieces 32 (cut1 35 l).1 = h :: t ∧ wOn cur l = ((cur ++ h) :: t).filter (fun x => !x.isEmpty)
  | [], cur => ⟨[], [], rfl, by rw [List.append_nil, filter_push]; simp [wOn]⟩
  | c :: r, cur => by
    by_cases h35 : c = 35
    · subst h35
      refine ⟨[], [], by simp [cut1, pieces], ?_⟩
      rw [List.append_nil, filter_push, wOn, if_pos rfl]
      simp
    · have e1 : (cut1 35 (c :: r)).1 = c :: (cut1 35 r).1 := by simp [cut1, h35]
      by_cases h32 : c = 32
      · subst h32
        obtain ⟨h, t, e2, e3⟩ := wOn_is r []
        refine ⟨[], h :: t, by rw [e1, pieces, if_pos rfl, e2], ?_⟩
        rw [List.append_nil, filter_push, wOn, if_neg h35, if_pos rfl, e3, List.nil_append]
      · obtain ⟨h, t, e2, e3⟩ := wOn_is r (cur ++ [c])
        refine ⟨c :: h, t, by rw [e1, pieces, if_neg h32, e2], ?_⟩
        rw [wOn, if_neg h35, if_neg h32, e3, List.append_assoc]
        rfl
theorem wOn_all (l : List UInt8) : wordsAll l = wOn [] l := by
  obtain ⟨h, t, e1, e2⟩ := wOn_is l []
  rw [e2]
  unfold wordsAll wordsB
  rw [e1]
  rfl
/-- Amid the words. -/
structure DW (w wr : World) (v : Value) (l : List UInt8) (out : List (List UInt8)) (fr i : Nat) : Prop where
  own : wr.ownsRow w.heap.size 9 1 v out.length (strsV out)
  below : Below w.heap.size w wr
  le : fr ≤ i
  few : out.length ≤ i
  says : wordsAll l = out ++ wOn ((l.drop fr).take (i - fr)) (l.drop i)
def DWordsPost (l : List UInt8) (w : World) (e : Ending) (w' : World) : Prop :=
  ∃ v, e = .returned v ∧ w'.ownsRow w.heap.size 9 1 v (wordsAll l).length (strsV (wordsAll l)) ∧ Below w.heap.size w w'
theorem own_form9 {w : World} {base n : Nat} {v : Value} {xs : List Value} (h : w.ownsRow base 9 1 v n xs) : ∃ A ca, v = .slice A n ca := by
  rcases h.2 with ⟨e, e0⟩ | ⟨g, cap, cur, e, _⟩
  · exact ⟨none, 0, by rw [e, e0]⟩
  · exact ⟨_, cap, e⟩
theorem slice_text (l : List UInt8) (fr i : Nat) (h1 : fr ≤ i) (h2 : i ≤ l.length) (hl : l.length < 4611686018427387904) (w : World) : (Instr.slice 9 (str l) (some (.int .i64 (fr : Int))) (some (.int .i64 (i : Int))) none).run Tryd.prog w = .ok (str ((l.drop fr).take (i - fr))) w := by
  have hs : (⟨((l.drop fr).take (i - fr)).toArray⟩ : ByteArray) = (⟨l.toArray⟩ : ByteArray).extract fr i := by
    apply ByteArray.ext
    apply Array.ext'
    simp [ByteArray.data_extract]
  unfold str
  rw [hs]
  have hsz : (⟨l.toArray⟩ : ByteArray).size = l.length := rfl
  generalize (⟨l.toArray⟩ : ByteArray) = S at *
  have k1 : (fr : Int) ≤ (i : Int) := by omega
  have k2 : (i : Int) ≤ (S.size : Int) := by omega
  have k3 : (0 : Int) ≤ (fr : Int) := by omega
  clear hs hsz h1 h2
  go_simp
set_option maxHeartbeats 8000000 in
theorem dwords_any (l : List UInt8) (w : World) (hl1 : l.length ≤ 1000000) : Calls Tryd.prog 72 #[str l] w (DWordsPost l w) := by
  have hl : l.length < 4611686018427387904 := by omega
  obtain ⟨i0, hi, hz0, hz1, hz2⟩ := info_parts Tryd.info9
  have hx := str_at l
  have hsz : (⟨l.toArray⟩ : ByteArray).size = l.length := rfl
  have HSL := Lib.hid (fun fr i h1 h2 w => slice_text l fr i h1 h2 hl w)
  unfold str at *
  have HX := Lib.hid hx
  have HSZ := Lib.hid hsz
  have HL := Lib.hid hl
  generalize (⟨l.toArray⟩ : ByteArray) = t at *
  have hts : t.size ≤ 1000000 := by omega
  clear hx hsz hl hl1
  go_enter Tryd.func72, Tryd.ntmps72
  go_wp2
  go_loopw [3, 4, 5] (fun sv sf si wr => ∃ (out : List (List UInt8)) (fr i : Nat), sf = .int .i64 (fr : Int) ∧ si = .int .i64 (i : Int) ∧ i ≤ t.size ∧ (∃ A c, sv = .slice A out.length c) ∧ Hid (DW w wr sv l out fr i)) (fun _ _ si _ => t.size + 1 - (lenT si))
  case atStart => exact ⟨[], 0, 0, rfl, rfl, Nat.zero_le _, ⟨none, 0, rfl⟩, Lib.hid ⟨World.ownsRow_nil _ _ _ _, Below.refl _ _, Nat.le_refl _, Nat.le_refl _, by rw [wOn_all]; simp⟩⟩
  case round =>
    obtain ⟨out, fr, i, rfl, rfl, hit, ⟨A, ca, rfl⟩, HI⟩ := hrel
    have k0 : (i : Int) ≤ (t.size : Int) := by omega
    have hfi := HI.out.le
    obtain ⟨cur, hcur⟩ : ∃ cur, cur = (l.drop fr).take (i - fr) := ⟨_, rfl⟩
    have hcl : cur.length = i - fr := by rw [hcur, List.length_take, List.length_drop, ← HSZ.out]; omega
    have HCUR := Lib.hid hcur
    have hrun : ∀ w, (Instr.slice 9 (.string t) (some (.int .i64 (fr : Int))) (some (.int .i64 (i : Int))) none).run Tryd.prog w = .ok (.string ⟨cur.toArray⟩) w := fun w => by
      have := HSL.out fr i hfi (by rw [← HSZ.out]; exact hit) w
      rw [← hcur] at this
      exact this
    by_cases hlt : i < t.size
    case neg =>
      obtain rfl : i = t.size := by omega
      have HEND : Hid (wordsAll l = out ++ pushW cur) := Lib.hid (by
        rw [HI.out.says, ← HCUR.out, List.drop_eq_nil_of_le (by rw [← HSZ.out]; omega)]
        rfl)
      clear HSL hlt
      by_cases hfr : fr < t.size
      case pos =>
        have g1 : ((t.size : Nat) : Int) > (fr : Int) := by omega
        have g1' : fr < t.size := hfr
        have HF : Hid (wordsAll l = out ++ [cur]) := Lib.hid (by
          rw [HEND.out]
          unfold pushW
          rw [if_neg (fun e => by rw [e] at hcl; simp at hcl; omega)])
        clear HEND hcl hcur
        have hfew := HI.out.few
        have hsz := HI.out.below.size
        have HO : Hid ((wr.alloc (.cells #[.string ⟨cur.toArray⟩] 9)).ownsRow w.heap.size 9 1 (.slice A out.length ca) out.length (strsV out)) := Lib.hid (own1_below HI.out.own ((Below.refl _ _).alloc (Nat.le_refl _) _))
        go_wp2_with (at_builtin; refine wpList_append_own _ rfl _ _ 89 rfl w.heap.size 9 i0 (.string ⟨#[]⟩) 1 16 Tryd.underlying89 hi hz0 hz1 hz2 rfl (by decide) (.slice A out.length ca) out.length (strsV out) rfl HO.out ⟨wr.heap.size, 0, none⟩ 1 1 [.string ⟨cur.toArray⟩] rfl rfl ?c1 ?c2 ?c3 ?c4 ?c5 ?_)
        case c1 =>
          intro j u hj
          match j, hj with
          | 0, hj => simp at hj; subst hj; simp [Addr.add]
        case c2 => intro u hu; simp at hu; subst hu; rfl
        case c3 => unfold maxLen; omega
        case c4 => omega
        case c5 => simp; omega
        intro v' wa hown hgrow hnil
        have HB : Hid (Below w.heap.size w wa) := Lib.hid ((past_alloc HI.out.below _).grown hgrow (by simp; omega) (fun k h => (HO.out.lt k h).1))
        have HN : Hid (wa.ownsRow w.heap.size 9 1 v' (out ++ [cur]).length (strsV (out ++ [cur]))) := Lib.hid (by
          rw [strsV_append, List.length_append]
          exact hown)
        obtain ⟨A9, c9, hv9⟩ := own_form9 hown
        subst hv9
        clear hown hgrow hnil HO hfew hsz
        go_wp2
        (try rw [Exit.noGoto_ret])
        go_ret
        exact ⟨_, rfl, by rw [HF.out]; exact HN.out, HB.out⟩
      case neg =>
        have g1 : ¬ ((t.size : Nat) : Int) > (fr : Int) := by omega
        have g1' : ¬ fr < t.size := hfr
        have HF : Hid (wordsAll l = out) := Lib.hid (by
          rw [HEND.out]
          unfold pushW
          rw [if_pos (List.length_eq_zero_iff.1 (by omega)), List.append_nil])
        clear HEND hcl hcur
        go_wp2
        (try rw [Exit.noGoto_ret])
        go_ret
        exact ⟨_, rfl, by rw [HF.out]; exact HI.out.own, HI.out.below⟩
    have i1 : (i : Int) < (t.size : Int) := by omega
    have i0' : (0 : Int) ≤ (i : Int) := by omega
    have i2 : ((i : Int) == (t.size : Int)) = false := by simp; omega
    have i3 : ¬ (i : Int) = (t.size : Int) := by omega
    have hcl2 := HX.out i hlt
    have hdr := drop_get (l := l) (k := i) (by rw [← HSZ.out]; exact hlt)
    obtain ⟨c0, hc0⟩ : ∃ c0, l.getD i 0 = c0 := ⟨_, rfl⟩
    rw [hc0] at hcl2 hdr
    have hc256 : c0.toNat < 256 := c0.toNat_lt
    obtain ⟨c, hc⟩ : ∃ c, c0.toNat = c := ⟨_, rfl⟩
    rw [hc] at hcl2 hc256
    have HDR := Lib.hid hdr
    have HC := Lib.hid hc
    have HC0 := Lib.hid hc0
    clear hdr hc hc0 HSL
    by_cases c35 : c = 35
    case pos =>
      have q1 : ((c : Int) == 35) = true := by simp; omega
      have q2 : (c : Int) = 35 := by omega
      have HEND : Hid (wordsAll l = out ++ pushW cur) := Lib.hid (by
        have e : c0 = 35 := UInt8.toNat_inj.1 (by rw [HC.out, c35]; rfl)
        rw [HI.out.says, ← HCUR.out, HDR.out, wOn, if_pos e])
      clear c35 HDR HC HC0
      by_cases hfr : fr < i
      case pos =>
        have g1 : ((i : Nat) : Int) > (fr : Int) := by omega
        have g1' : fr < i := hfr
        have HF : Hid (wordsAll l = out ++ [cur]) := Lib.hid (by
          rw [HEND.out]
          unfold pushW
          rw [if_neg (fun e => by rw [e] at hcl; simp at hcl; omega)])
        clear HEND hcl hcur
        have hfew := HI.out.few
        have hsz := HI.out.below.size
        have HO : Hid ((wr.alloc (.cells #[.string ⟨cur.toArray⟩] 9)).ownsRow w.heap.size 9 1 (.slice A out.length ca) out.length (strsV out)) := Lib.hid (own1_below HI.out.own ((Below.refl _ _).alloc (Nat.le_refl _) _))
        go_wp2_with (at_builtin; refine wpList_append_own _ rfl _ _ 89 rfl w.heap.size 9 i0 (.string ⟨#[]⟩) 1 16 Tryd.underlying89 hi hz0 hz1 hz2 rfl (by decide) (.slice A out.length ca) out.length (strsV out) rfl HO.out ⟨wr.heap.size, 0, none⟩ 1 1 [.string ⟨cur.toArray⟩] rfl rfl ?c1 ?c2 ?c3 ?c4 ?c5 ?_)
        case c1 =>
          intro j u hj
          match j, hj with
          | 0, hj => simp at hj; subst hj; simp [Addr.add]
        case c2 => intro u hu; simp at hu; subst hu; rfl
        case c3 => unfold maxLen; omega
        case c4 => omega
        case c5 => simp; omega
        intro v' wa hown hgrow hnil
        have HB : Hid (Below w.heap.size w wa) := Lib.hid ((past_alloc HI.out.below _).grown hgrow (by simp; omega) (fun k h => (HO.out.lt k h).1))
        have HN : Hid (wa.ownsRow w.heap.size 9 1 v' (out ++ [cur]).length (strsV (out ++ [cur]))) := Lib.hid (by
          rw [strsV_append, List.length_append]
          exact hown)
        obtain ⟨A9, c9, hv9⟩ := own_form9 hown
        subst hv9
        clear hown hgrow hnil HO hfew hsz
        go_wp2
        (try rw [Exit.noGoto_ret])
        go_ret
        exact ⟨_, rfl, by rw [HF.out]; exact HN.out, HB.out⟩
      case neg =>
        have g1 : ¬ ((i : Nat) : Int) > (fr : Int) := by omega
        have g1' : ¬ fr < i := hfr
        have HF : Hid (wordsAll l = out) := Lib.hid (by
          rw [HEND.out]
          unfold pushW
          rw [if_pos (List.length_eq_zero_iff.1 (by omega)), List.append_nil])
        clear HEND hcl hcur
        go_wp2
        (try rw [Exit.noGoto_ret])
        go_ret
        exact ⟨_, rfl, by rw [HF.out]; exact HI.out.own, HI.out.below⟩
    have n35 : ((c : Int) == 35) = false := by simp; omega
    have n35' : ¬ (c : Int) = 35 := by omega
    have HN35 : Hid (c0 ≠ 35) := Lib.hid (fun e => c35 (by rw [← HC.out, e]; rfl))
    by_cases c32 : c = 32
    case pos =>
      have q1 : ((c : Int) == 32) = true := by simp; omega
      have q2 : (c : Int) = 32 := by omega
      have HNX : Hid (wordsAll l = (out ++ pushW cur) ++ wOn [] (l.drop (i + 1))) := Lib.hid (by
        have e : c0 = 32 := UInt8.toNat_inj.1 (by rw [HC.out, c32]; rfl)
        rw [HI.out.says, ← HCUR.out, HDR.out, wOn, if_neg HN35.out, if_pos e, List.append_assoc])
      have e0 : (l.drop (i + 1)).take (i + 1 - (i + 1)) = [] := by rw [Nat.sub_self, List.take_zero]
      have HE0 := Lib.hid e0
      have j1 : IntKind.i64.wrap ((i : Int) + 1) = ((i + 1 : Nat) : Int) := by rw [IntKind.wrap_i64]; omega
      clear c32 c35 HDR HC HC0 HN35 e0
      by_cases hfr : fr < i
      case pos =>
        have g1 : (i : Int) > (fr : Int) := by omega
        have HF : Hid (wordsAll l = (out ++ [cur]) ++ wOn [] (l.drop (i + 1))) := Lib.hid (by
          have h := HNX.out
          unfold pushW at h
          rw [if_neg (fun e => by rw [e] at hcl; simp at hcl; omega)] at h
          exact h)
        clear HNX hcl hcur
        have hfew := HI.out.few
        have hsz := HI.out.below.size
        have HO : Hid ((wr.alloc (.cells #[.string ⟨cur.toArray⟩] 9)).ownsRow w.heap.size 9 1 (.slice A out.length ca) out.length (strsV out)) := Lib.hid (own1_below HI.out.own ((Below.refl _ _).alloc (Nat.le_refl _) _))
        go_wp2_with (at_builtin; refine wpList_append_own _ rfl _ _ 89 rfl w.heap.size 9 i0 (.string ⟨#[]⟩) 1 16 Tryd.underlying89 hi hz0 hz1 hz2 rfl (by decide) (.slice A out.length ca) out.length (strsV out) rfl HO.out ⟨wr.heap.size, 0, none⟩ 1 1 [.string ⟨cur.toArray⟩] rfl rfl ?c1 ?c2 ?c3 ?c4 ?c5 ?_)
        case c1 =>
          intro j u hj
          match j, hj with
          | 0, hj => simp at hj; subst hj; simp [Addr.add]
        case c2 => intro u hu; simp at hu; subst hu; rfl
        case c3 => unfold maxLen; omega
        case c4 => omega
        case c5 => simp; omega
        intro v' wa hown hgrow hnil
        have HB : Hid (Below w.heap.size w wa) := Lib.hid ((past_alloc HI.out.below _).grown hgrow (by simp; omega) (fun k h => (HO.out.lt k h).1))
        have HN : Hid (wa.ownsRow w.heap.size 9 1 v' (out ++ [cur]).length (strsV (out ++ [cur]))) := Lib.hid (by
          rw [strsV_append, List.length_append]
          exact hown)
        obtain ⟨A9, c9, hv9⟩ := own_form9 hown
        subst hv9
        clear hown hgrow hnil HO hfew hsz
        have HFEW : Hid ((out ++ [cur]).length ≤ i + 1) := Lib.hid (by rw [List.length_append]; have := HI.out.few; simp only [List.length_singleton]; omega)
        go_wp2
        go_roundw
        case rel => exact ⟨out ++ [cur], i + 1, i + 1, by go_num, by go_num, by omega, ⟨A9, c9, by rw [List.length_append]; rfl⟩, Lib.hid ⟨HN.out, HB.out, Nat.le_refl _, HFEW.out, by rw [HE0.out]; exact HF.out⟩⟩
        case measure => simp [lenT]; omega
      case neg =>
        have g1 : ¬ (i : Int) > (fr : Int) := by omega
        have HF : Hid (wordsAll l = out ++ wOn [] (l.drop (i + 1))) := Lib.hid (by
          have h := HNX.out
          unfold pushW at h
          rw [if_pos (List.length_eq_zero_iff.1 (by omega)), List.append_nil] at h
          exact h)
        clear HNX hcl hcur
        go_wp2
        go_roundw
        case rel => exact ⟨out, i + 1, i + 1, by go_num, by go_num, by omega, ⟨A, ca, rfl⟩, Lib.hid ⟨HI.out.own, HI.out.below, Nat.le_refl _, by have := HI.out.few; omega, by rw [HE0.out]; exact HF.out⟩⟩
        case measure => simp [lenT]; omega
    have n32 : ((c : Int) == 32) = false := by simp; omega
    have n32' : ¬ (c : Int) = 32 := by omega
    have HN32 : Hid (c0 ≠ 32) := Lib.hid (fun e => c32 (by rw [← HC.out, e]; rfl))
    have HNX : Hid (wordsAll l = out ++ wOn ((l.drop fr).take (i + 1 - fr)) (l.drop (i + 1))) := Lib.hid (by
      have e : (l.drop fr).take (i + 1 - fr) = cur ++ [c0] := by
        have hlen : i - fr < (l.drop fr).length := by rw [List.length_drop, ← HSZ.out]; omega
        rw [show i + 1 - fr = (i - fr) + 1 by omega, List.take_succ_eq_append_getElem hlen, ← HCUR.out]
        congr 2
        have := HC0.out
        rw [List.getElem_drop]
        rw [List.getD_eq_getElem?_getD, List.getElem?_eq_getElem (by rw [← HSZ.out]; exact hlt)] at this
        rw [← this]
        simp only [Option.getD_some]
        congr 1
        omega
      rw [HI.out.says, ← HCUR.out, HDR.out, wOn, if_neg HN35.out, if_neg HN32.out, e])
    clear c32 c35 HDR HC HC0 HN35 HN32 hcl hcur
    go_wp2
    go_roundw
    case rel => exact ⟨out, fr, i + 1, rfl, by go_num, by omega, ⟨A, ca, rfl⟩, Lib.hid ⟨HI.out.own, HI.out.below, by omega, by have := HI.out.few; omega, HNX.out⟩⟩
    case measure => simp [lenT]; omega
end Go.Proofs.YtdpoahjgdndnhaaDoor
