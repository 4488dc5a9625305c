/-
  disk's isName, cmp.Compare of strings, disk's placeOf and look: what each returns, the world as it was.
-/
import Derived.Test.YtofjealjecfkiaaFMath
set_option maxRecDepth 100000
namespace Go.Proofs.Ytofjealjecfkiaa
open Go.RowKit
attribute [local go_sem ↓] Go.wp_at_zero Go.wp_at_succ
set_option linter.unusedVariables false

set_option maxHeartbeats 1000000 in
theorem isName_in (l : List UInt8) (w : World) (h1 : 1 ≤ l.length) (h20 : l.length ≤ 20) :
    Calls Try.prog 23 #[str l] w fun e w' => e = .returned (.bool (l.all lowB)) ∧ w = w' := by
  unfold str
  have hs : (ByteArray.mk l.toArray).size = l.length := by simp [ByteArray.size]
  obtain ⟨s, hs'⟩ : ∃ s, s = ByteArray.mk l.toArray := ⟨_, rfl⟩
  rw [← hs'] at hs ⊢
  have HS : Hid (∀ k (h : k < s.size) (h' : k < l.length), s[k] = l[k]) := Lib.hid (fun k h h' => by subst hs'; rfl)
  obtain ⟨r, hr⟩ : ∃ r, l.all lowB = r := ⟨_, rfl⟩
  rw [hr]
  have HR := Lib.hid hr
  have HL := Lib.hid hs
  have h0 : (1 : Int) ≤ (s.size : Int) := by omega
  have h14 : (s.size : Int) ≤ 20 := by omega
  clear hs' hr h1 h20 hs
  go_enter Try.func23, Try.ntmps23
  go_wp2
  go_loopw [15] (fun si wr => ∃ (k : Nat), k ≤ s.size ∧ si = .int .i64 (k : Int) ∧ Hid (r = (l.drop k).all lowB) ∧ w = wr) (fun si _ => s.size - (intOf si).toNat)
  case atStart => exact ⟨0, by omega, rfl, Lib.hid HR.out.symm, rfl⟩
  case round =>
    obtain ⟨k, hk, rfl, HN, rfl⟩ := hrel
    by_cases hlt : k < s.size
    · have hlk : k < l.length := by rw [← HL.out]; exact hlt
      have e := HS.out k hlt hlk
      have ed : l.drop k = l[k] :: l.drop (k + 1) := List.drop_eq_getElem_cons hlk
      generalize l[k] = c at e ed
      have HN' := HN.out
      rw [ed, List.all_cons] at HN'
      obtain ⟨d, hd⟩ : ∃ d : Int, (c.toNat : Int) = d := ⟨_, rfl⟩
      have hc : (s[k].toNat : Int) = d := by rw [e]; exact hd
      by_cases hg : lowB c = true
      · have HN2 : Hid (r = (l.drop (k + 1)).all lowB) := Lib.hid (by rw [HN', hg]; rfl)
        unfold lowB at hg
        simp only [Bool.or_eq_true, Bool.and_eq_true, decide_eq_true_eq] at hg
        have hk1 : k + 1 ≤ s.size := hlt
        rcases hg with ⟨g1, g2⟩ | ⟨g1, g2⟩ | g1
        · have g1' : 97 ≤ d := by omega
          have g2' : d ≤ 122 := by omega
          clear HN' HN e ed g1 g2 hd
          go_wp2
          go_roundw
          case rel => exact ⟨k + 1, by omega, by go_num, HN2, trivial⟩
          case measure => simp [intOf]; omega
        · have g1' : 48 ≤ d := by omega
          have g2' : d ≤ 57 := by omega
          clear HN' HN e ed g1 g2 hd
          go_wp2
          go_roundw
          case rel => exact ⟨k + 1, by omega, by go_num, HN2, trivial⟩
          case measure => simp [intOf]; omega
        · have g1' : d = 46 := by omega
          clear HN' HN e ed g1 hd
          go_wp2
          go_roundw
          case rel => exact ⟨k + 1, by omega, by go_num, HN2, trivial⟩
          case measure => simp [intOf]; omega
      · have HN2 : Hid (r = false) := Lib.hid (by
          rw [HN']
          have : lowB c = false := by simpa using hg
          rw [this]; rfl)
        unfold lowB at hg
        simp only [Bool.or_eq_true, Bool.and_eq_true, decide_eq_true_eq, not_or, not_and, Nat.not_le] at hg
        obtain ⟨q1, q2, q3⟩ := hg
        have f3 : ¬ d = 46 := by omega
        by_cases p1 : d < 48
        · have f1 : d < 97 := by omega
          clear HN' HN e ed hd q1 q2 q3
          go_wp2
          (try rw [Exit.noGoto_ret])
          go_ret
          exact ⟨by rw [HN2.out]; rfl, rfl⟩
        · have f0 : 57 < d := by omega
          by_cases p2 : d < 97
          · clear HN' HN e ed hd q1 q2 q3
            go_wp2
            (try rw [Exit.noGoto_ret])
            go_ret
            exact ⟨by rw [HN2.out]; rfl, rfl⟩
          · have f1 : 122 < d := by omega
            clear HN' HN e ed hd q1 q2 q3
            go_wp2
            (try rw [Exit.noGoto_ret])
            go_ret
            exact ⟨by rw [HN2.out]; rfl, rfl⟩
    · have HN2 : Hid (r = true) := Lib.hid (by
        rw [HN.out, List.drop_eq_nil_of_le (by rw [← HL.out]; omega)]
        rfl)
      go_wp2
      (try rw [Exit.noGoto_ret])
      go_ret
      exact ⟨by rw [HN2.out]; rfl, rfl⟩

theorem isName_out (s : ByteArray) (w : World) (h : (s.size : Int) < 1 ∨ (20 : Int) < (s.size : Int)) : Calls Try.prog 23 #[.string s] w fun e w' => e = .returned (.bool false) ∧ w = w' := by
  rcases h with h | h
  · go_enter Try.func23, Try.ntmps23
    go_wp2
    go_ret
    exact ⟨rfl, rfl⟩
  · have h1 : (1 : Int) ≤ (s.size : Int) := by omega
    go_enter Try.func23, Try.ntmps23
    go_wp2
    go_ret
    exact ⟨rfl, rfl⟩

theorem isName_any (l : List UInt8) (w : World) : Calls Try.prog 23 #[str l] w fun e w' => e = .returned (.bool (isNm l)) ∧ w = w' := by
  by_cases h : 1 ≤ l.length ∧ l.length ≤ 20
  · have := isName_in l w h.1 h.2
    unfold isNm
    rw [decide_eq_true h.1, decide_eq_true h.2]
    exact this
  · have hs : (ByteArray.mk l.toArray).size = l.length := by simp [ByteArray.size]
    have := isName_out (ByteArray.mk l.toArray) w (by rw [hs]; omega)
    have e : isNm l = false := by
      unfold isNm
      rw [Bool.and_eq_false_iff, Bool.and_eq_false_iff, decide_eq_false_iff_not, decide_eq_false_iff_not]
      omega
    rw [e]
    exact this

theorem toL (l : List UInt8) : (ByteArray.mk l.toArray).toList = l := by rw [Lib.toList_data]

theorem isNaN_any (s : ByteArray) (w : World) : Calls Try.prog 30 #[.string s] w fun e w' => e = .returned (.bool false) ∧ w = w' := by
  go_enter Try.func30, Try.ntmps30
  go_wp2
  go_ret
  exact ⟨by simp, rfl⟩

theorem compare_any (a b : List UInt8) (w : World) : Calls Try.prog 28 #[str a, str b] w fun e w' => e = .returned (.int .i64 (cmpB a b)) ∧ w = w' := by
  unfold str
  obtain ⟨x, hx⟩ : ∃ x, x = ByteArray.mk a.toArray := ⟨_, rfl⟩
  obtain ⟨y, hy⟩ : ∃ y, y = ByteArray.mk b.toArray := ⟨_, rfl⟩
  have ex : x.toList = a := by rw [hx]; exact toL a
  have ey : y.toList = b := by rw [hy]; exact toL b
  rw [← hx, ← hy]
  clear hx hy
  have n1 := isNaN_any x
  have n2 := isNaN_any y
  by_cases h : Op.bytesLess a b = true
  · have hl : Op.bytesLess x.toList y.toList = true := by rw [ex, ey]; exact h
    have HC : Hid (cmpB a b = -1) := Lib.hid (by unfold cmpB; rw [if_pos h])
    clear ex ey h
    go_enter Try.func28, Try.ntmps28
    go_wp2_with fail
    refine (n1 w).mono ?_
    rintro e w' ⟨rfl, rfl⟩
    go_wp2_with fail
    refine (n2 w).mono ?_
    rintro e w' ⟨rfl, rfl⟩
    go_wp2
    go_ret
    exact ⟨by rw [HC.out]; rfl, rfl⟩
  · have hf : Op.bytesLess a b = false := by simpa using h
    have hl : Op.bytesLess x.toList y.toList = false := by rw [ex, ey]; exact hf
    by_cases hab : a = b
    · have he : (x.toList == y.toList) = true := by rw [ex, ey, hab]; simp
      have HC : Hid (cmpB a b = 0) := Lib.hid (cmpB_zero.2 hab)
      clear ex ey h hf hab
      go_enter Try.func28, Try.ntmps28
      go_wp2_with fail
      refine (n1 w).mono ?_
      rintro e w' ⟨rfl, rfl⟩
      go_wp2_with fail
      refine (n2 w).mono ?_
      rintro e w' ⟨rfl, rfl⟩
      go_wp2
      go_ret
      exact ⟨by rw [HC.out]; rfl, rfl⟩
    · have he : (x.toList == y.toList) = false := by rw [ex, ey]; simpa using hab
      have HC : Hid (cmpB a b = 1) := Lib.hid (by unfold cmpB; rw [if_neg h, if_neg hab])
      clear ex ey h hf hab
      go_enter Try.func28, Try.ntmps28
      go_wp2_with fail
      refine (n1 w).mono ?_
      rintro e w' ⟨rfl, rfl⟩
      go_wp2_with fail
      refine (n2 w).mono ?_
      rintro e w' ⟨rfl, rfl⟩
      go_wp2
      go_ret
      exact ⟨by rw [HC.out]; rfl, rfl⟩
end Go.Proofs.Ytofjealjecfkiaa
