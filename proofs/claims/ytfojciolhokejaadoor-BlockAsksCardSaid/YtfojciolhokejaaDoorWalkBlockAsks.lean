/-
  The walk of BlockAsks: it returns true, and writes nothing that was there.
-/
import Derived.Test.YtfojciolhokejaaDoorKTold
import Derived.Test.YtfojciolhokejaaDoorTSame
namespace Go.Proofs.YtfojciolhokejaaDoor.blockAsks
open Go.RowKit
set_option linter.unusedVariables false

/-- Bytes and a code that a call returned. -/
def BE (w : World) (P : List Nat) (E : Int) (e : Ending) (w' : World) : Prop :=
  ∃ A cap, e = .returned (.tuple #[.slice A P.length cap, .int .i64 E]) ∧ Bytes w' A P ∧ Below w.heap.size w w'
/-- Samples and a code. -/
def SE (w : World) (L : List (Int × Int)) (E : Int) (e : Ending) (w' : World) : Prop :=
  ∃ A cap, e = .returned (.tuple #[.slice A L.length cap, .int .i64 E]) ∧ Samps w' A L ∧ L.length ≤ cap ∧ cap ≤ maxLen ∧ Below w.heap.size w w'
/-- Windows and a code. -/
def AE (w : World) (L : List Ag) (E : Int) (e : Ending) (w' : World) : Prop :=
  ∃ A cap, e = .returned (.tuple #[.slice A L.length cap, .int .i64 E]) ∧ RowOf w' A L.length cap L ∧ Below w.heap.size w w'
theorem put_be {A : Option Addr} {len cap : Nat} {l : List (Int × Int)} {w : World} (hl : l.length = len) (hS : Samps w A l) (hc : len ≤ cap) (hm : cap ≤ maxLen) :
    Calls Tryd.prog 9 #[.slice A len cap] w (BE w (if BOk l then putB l else []) (if BOk l then 0 else 1)) := by
  by_cases h : BOk l
  · rw [if_pos h, if_pos h]
    refine (kput_res hl hS hc hm h).mono ?_
    rintro e w' ⟨g, cap', rfl, h1, _, _, _, h2⟩
    exact ⟨_, _, rfl, h1, h2⟩
  · rw [if_neg h, if_neg h]
    refine (kput_not hl hS hc hm h).mono ?_
    rintro e w' ⟨rfl, h2⟩
    exact ⟨none, 0, rfl, ⟨by simp, fun h => absurd h (by simp)⟩, h2⟩
theorem puta_be {A : Option Addr} {len cap : Nat} {l : List Ag} {w : World} (k : Int) (hl : l.length = len) (hS : Aggs w A l) (hc : len ≤ cap) (hm : cap ≤ maxLen) (hk : In64 k) (hw : Wid w) :
    Calls Tryd.prog 13 #[.slice A len cap, .int .i64 k] w (BE w (if AOk k l then putA (wid k) l else []) (if AOk k l then 0 else 1)) := by
  by_cases h : AOk k l
  · rw [if_pos h, if_pos h]
    refine (kputa_any k hl hS hc hm hw h).mono ?_
    intro e w' h1
    obtain ⟨g, cap', rfl, h1, _, _, _, h2⟩ := h1.res (putA_byte _ _)
    exact ⟨_, _, rfl, h1, h2⟩
  · rw [if_neg h, if_neg h]
    refine (kputa_not k hl hS hc hm hk hw h).mono ?_
    rintro e w' ⟨rfl, h2⟩
    exact ⟨none, 0, rfl, ⟨by simp, fun h => absurd h (by simp)⟩, h2⟩
theorem get_se {w : World} {r : Option (List (Int × Int))} {e : Ending} {w' : World} (h : GetPost w r e w') : SE w (r.getD []) (if r = none then 2 else 0) e w' := by
  obtain ⟨h1, h2⟩ := h
  cases r with
  | none =>
    simp only at h1
    subst h1
    exact ⟨none, 0, rfl, ⟨by simp, fun h => absurd h (by simp)⟩, by simp, by unfold maxLen; omega, h2⟩
  | some l =>
    obtain ⟨V, rfl, hown, hin⟩ := h1
    obtain ⟨A, cap, rfl, hS, hc, hm⟩ := own_form hown hin
    exact ⟨A, cap, rfl, hS, hc, hm, h2⟩
theorem geta_ae {w : World} {r : Option (List Ag)} {e : Ending} {w' : World} (h : GetAPost w r e w') : AE w (r.getD []) (if r = none then 2 else 0) e w' := by
  obtain ⟨h1, h2⟩ := h
  cases r with
  | none =>
    simp only at h1
    subst h1
    exact ⟨none, 0, rfl, ⟨rfl, ⟨by simp, fun h => absurd h (by simp)⟩, by simp, by unfold maxLen; omega, fun _ => rfl⟩, h2⟩
  | some l =>
    obtain ⟨V, rfl, hown, hin⟩ := h1
    obtain ⟨A, cap, rfl, hR⟩ := rowOf_own hown hin
    exact ⟨A, cap, rfl, hR, h2⟩
theorem nil_ae {w : World} {e : Ending} {w' : World} (h : e = .returned (.tuple #[.slice none 0 0, .int .i64 1]) ∧ Below w.heap.size w w') : AE w [] 1 e w' := by
  obtain ⟨rfl, h2⟩ := h
  exact ⟨none, 0, rfl, ⟨rfl, ⟨by simp, fun h => absurd h (by simp)⟩, by simp, by unfold maxLen; omega, fun _ => rfl⟩, h2⟩
set_option maxRecDepth 100000 in
theorem rgetaggs_not (s : ByteArray) (k : Int) (w : World) (hk : In64 k) (h : ¬ coarse k) :
    Calls Tryd.prog 16 #[.string s, .int .i64 k] w fun e w' => e = .returned (.tuple #[.slice none 0 0, .int .i64 1]) ∧ Below w.heap.size w w' := by
  by_cases h1 : k < 1
  · go_enter Tryd.func16, Tryd.ntmps16
    go_wp2
    (try rw [Exit.noGoto_ret])
    go_ret2
    exact ⟨rfl, Below.refl _ _⟩
  · have h4 : 3 < k := by unfold coarse at h; omega
    clear h
    go_enter Tryd.func16, Tryd.ntmps16
    go_wp2
    (try rw [Exit.noGoto_ret])
    go_ret2
    exact ⟨rfl, Below.refl _ _⟩
theorem strB_is {bs : List Nat} (hb : ∀ c ∈ bs, c < 256) (hl : bs.length ≤ 1000) : StrIs (strB bs) bs :=
  ⟨strB_size bs, hb, by rw [strB_size]; exact hl, fun j hj => strB_get bs hb j hj⟩

set_option maxRecDepth 100000 in
set_option maxHeartbeats 2000000 in
theorem walk (a0 : Option Addr) (len0 cap0 : Nat) (l : List (Int × Int)) (a1 : Option Addr) (len1 cap1 : Nat) (la : List Ag) (k : Int) (a3 : Option Addr) (len3 cap3 : Nat) (bs : List Nat) (w : World)
    (s0 : l.length = len0 ∧ Samps w a0 l ∧ len0 ≤ cap0 ∧ cap0 ≤ maxLen ∧ (a0 = none → cap0 = 0)) (s1 : RowOf w a1 len1 cap1 la) (w2 : (Lit.int .i64 k).wf = true) (s3 : bs.length = len3 ∧ Bytes w a3 bs ∧ len3 ≤ cap3 ∧ cap3 ≤ maxLen) (hw : Wid w) :
    Calls Tryd.prog 3 #[.slice a0 len0 cap0, .slice a1 len1 cap1, .int .i64 k, .slice a3 len3 cap3] w fun e w' => e = .returned (.bool true) ∧ Below w.heap.size w w' := by
  obtain ⟨l0, hS, hc0, hm0, _⟩ := s0
  obtain ⟨l3, hB, hc3, hm3⟩ := s3
  have hk := fits_i64 w2
  by_cases hbig : 70 < len0 ∨ 70 < len1 ∨ 300 < len3
  · have MT := Lib.hid (fun w => told_any w)
    by_cases h0 : 70 < len0
    case' pos =>
      have i0 : (70 : Int) < (len0 : Int) := by omega
    case' neg =>
      have i0 : ¬ (70 : Int) < (len0 : Int) := by omega
      by_cases h1 : 70 < len1
      case' pos =>
        have i1 : (70 : Int) < (len1 : Int) := by omega
      case' neg =>
        have i1 : ¬ (70 : Int) < (len1 : Int) := by omega
        have i3 : (300 : Int) < (len3 : Int) := by omega
    all_goals
      clear hbig
      go_enter Tryd.func3, Tryd.ntmps3
      go_wp2_with fail
      refine (MT.out _).mono ?_
      rintro e w3 ⟨rfl, hB3⟩
      have HB3 := Lib.hid hB3
      clear hB3
      go_wp2
      go_ret
      exact ⟨rfl, HB3.out⟩
  have i0 : ¬ (70 : Int) < (len0 : Int) := by omega
  have i1 : ¬ (70 : Int) < (len1 : Int) := by omega
  have i3 : ¬ (300 : Int) < (len3 : Int) := by omega
  have hsi := strB_is hB.1 (by omega)
  have HCV : Hid (∀ w', Below w.heap.size w w' → (convert 24 9 (.slice a3 len3 cap3)).run Tryd.prog w' = .ok (.string (strB bs)) w') := Lib.hid (fun w' h => conv_bytes (hB.below h) len3 cap3 l3)
  have M1 := Lib.hid (put_be l0 hS hc0 hm0)
  have m2 := fun w' (h : Below w.heap.size w w') => rputblock_any l0 (hS.below h) hc0 hm0
  have M3 : Hid (∀ w', Below w.heap.size w w' → Calls Tryd.prog 11 #[.slice a3 len3 cap3] w' (SE w' ((getB bs).getD []) (if getB bs = none then 2 else 0))) := Lib.hid (fun w' h => (kget_any a3 len3 cap3 bs w' l3 (hB.below h) hc3 hm3).mono fun _ _ h => get_se h)
  have M4 : Hid (∀ w', Calls Tryd.prog 12 #[.string (strB bs)] w' (SE w' ((getB bs).getD []) (if getB bs = none then 2 else 0))) := Lib.hid (fun w' => (rgetblock_any bs (strB bs) w' hsi).mono fun _ _ h => get_se h)
  have M5 := Lib.hid (fun w' (h : Below w.heap.size w w') => puta_be k s1.1 (s1.2.1.below h) s1.2.2.1 s1.2.2.2.1 hk (hw.below h))
  have m6 := fun w' (h : Below w.heap.size w w') => rputaggs_any k s1.1 (s1.2.1.below h) s1.2.2.1 s1.2.2.2.1
  obtain ⟨LA, EA, M7, M8⟩ : ∃ (LA : List Ag) (EA : Int), Hid (∀ w', Below w.heap.size w w' → Calls Tryd.prog 15 #[.slice a3 len3 cap3, .int .i64 k] w' (AE w' LA EA)) ∧ Hid (∀ w', Calls Tryd.prog 16 #[.string (strB bs), .int .i64 k] w' (AE w' LA EA)) := by
    by_cases hco : coarse k
    · exact ⟨_, _, Lib.hid (fun w' h => (kgeta_in a3 len3 cap3 bs k w' l3 (hB.below h) hc3 hm3 hco (hw.below h)).mono fun _ _ h => geta_ae h), Lib.hid (fun w' => (rgetaggs_in bs (strB bs) k w' hsi hco).mono fun _ _ h => geta_ae h)⟩
    · exact ⟨[], 1, Lib.hid (fun w' h => (kgeta_not _ k w' hk hco).mono fun _ _ h => nil_ae h), Lib.hid (fun w' => (rgetaggs_not _ k w' hk hco).mono fun _ _ h => nil_ae h)⟩
  have M2 := Lib.hid m2
  have M6 := Lib.hid m6
  clear hbig m2 m6 hS hB hw hk s1 hsi w2
  generalize (if BOk l then putB l else []) = P1 at *
  generalize (if BOk l then (0 : Int) else 1) = E1 at *
  generalize (if AOk k la then putA (wid k) la else []) = P2 at *
  generalize (if AOk k la then (0 : Int) else 1) = E2 at *
  generalize (getB bs).getD [] = LS at *
  generalize (if getB bs = none then (2 : Int) else 0) = ES at *
  generalize strB bs = S at *
  go_enter Tryd.func3, Tryd.ntmps3
  go_wp2_with fail
  refine M1.out.mono ?_
  rintro e w1 ⟨A1, ca1, rfl, hy1, hb1⟩
  have HY1 := Lib.hid hy1
  have HB1 := Lib.hid hb1
  clear hy1 hb1
  go_wp2_with fail
  refine (M2.out _ HB1.out).mono ?_
  rintro e w2 ⟨rfl, hb2⟩
  have HB2 := Lib.hid (past HB1.out hb2)
  have HY2 := Lib.hid (HY1.out.below hb2)
  clear hb2
  go_wp2_with fail
  refine (M3.out _ HB2.out).mono ?_
  rintro e w3 ⟨A3, ca3, rfl, hs3, hq3, hn3, hb3⟩
  have HB3 := Lib.hid (past HB2.out hb3)
  have HY3 := Lib.hid (HY2.out.below hb3)
  have HS3 := Lib.hid hs3
  have cv := HCV.out _ HB3.out
  clear hb3 hs3
  go_wp2_with fail
  refine (M4.out _).mono ?_
  rintro e w4 ⟨A4, ca4, rfl, hs4, hq4, hn4, hb4⟩
  have HB4 := Lib.hid (past HB3.out hb4)
  have HY4 := Lib.hid (HY3.out.below hb4)
  have HX4 := Lib.hid (HS3.out.below hb4)
  have HS4 := Lib.hid hs4
  clear hb4 hs4 cv
  go_wp2_with fail
  refine (M5.out _ HB4.out).mono ?_
  rintro e w5 ⟨A5, ca5, rfl, hy5, hb5⟩
  have HB5 := Lib.hid (past HB4.out hb5)
  have HY5 := Lib.hid (HY4.out.below hb5)
  have HX5 := Lib.hid (HX4.out.below hb5)
  have HS5 := Lib.hid (HS4.out.below hb5)
  have HZ5 := Lib.hid hy5
  clear hb5 hy5
  go_wp2_with fail
  refine (M6.out _ HB5.out).mono ?_
  rintro e w6 ⟨rfl, hb6⟩
  have HB6 := Lib.hid (past HB5.out hb6)
  have hb6' := hb6
  clear hb6
  go_wp2_with fail
  refine (M7.out _ HB6.out).mono ?_
  rintro e w7 ⟨A7, ca7, rfl, hr7, hb7⟩
  have HB7 := Lib.hid (past HB6.out hb7)
  have HC7 := Lib.hid (past hb6' hb7)
  have HR7 := Lib.hid hr7
  have cv := HCV.out _ HB7.out
  clear hb6' hb7 hr7
  go_wp2_with fail
  refine (M8.out _).mono ?_
  rintro e w8 ⟨A8, ca8, rfl, hr8, hb8⟩
  have HB8 := Lib.hid (past HB7.out hb8)
  have HC8 := Lib.hid (past HC7.out hb8)
  have HR8 := Lib.hid hr8
  have HQ8 := Lib.hid (HR7.out.below hb8)
  clear hb8 hr8 cv
  go_wp2_with fail
  refine (told_any _).mono ?_
  rintro e w9 ⟨rfl, hb9⟩
  have HB9 := Lib.hid (past HB8.out hb9)
  have HC9 := Lib.hid (past HC8.out hb9)
  have HR9 := Lib.hid (HR8.out.below hb9)
  have HQ9 := Lib.hid (HQ8.out.below hb9)
  have cv1 := conv_bytes (HY5.out.below HC9.out) P1.length ca1 rfl
  have M9 := Lib.hid (sames_any rfl (HX5.out.below HC9.out) (HS5.out.below HC9.out) hq3 hq4 hn3 hn4)
  have HZ9 := Lib.hid (HZ5.out.below HC9.out)
  clear hb9
  generalize strB P1 = S1 at *
  go_wp2_with fail
  refine M9.out.mono ?_
  rintro e w10 ⟨rfl, hb10⟩
  have HB10 := Lib.hid (past HB9.out hb10)
  have cv2 := conv_bytes (HZ9.out.below hb10) P2.length ca5 rfl
  have M10 := Lib.hid (same_any (HQ9.out.below hb10) (HR9.out.below hb10))
  clear hb10 cv1
  generalize strB P2 = S2 at *
  go_wp2_with fail
  refine M10.out.mono ?_
  rintro e w11 ⟨rfl, hb11⟩
  have HB11 := Lib.hid (past HB10.out hb11)
  clear hb11 cv2
  go_wp2
  go_ret
  exact ⟨rfl, HB11.out⟩
end Go.Proofs.YtfojciolhokejaaDoor.blockAsks
