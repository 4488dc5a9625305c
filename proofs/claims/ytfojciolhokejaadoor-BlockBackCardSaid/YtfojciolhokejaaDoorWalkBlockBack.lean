/-
  The walk of BlockBack: it returns true, and writes nothing that was there.
-/
import Derived.Test.YtfojciolhokejaaDoorKTold
import Derived.Test.YtfojciolhokejaaDoorTSame
import Derived.Test.YtfojciolhokejaaDoorTMake
import Derived.Test.YtfojciolhokejaaDoorRRawAny
namespace Go.Proofs.YtfojciolhokejaaDoor.blockBack
open Go.RowKit
set_option linter.unusedVariables false

theorem goOn_may (f : Int) (hf : Ag.begin_ f) : ∀ (r : List Int) (a x : Ag), a.may → goOn f a r = (x, 0) → x.may ∧ x.fr = a.fr
  | [], a, x, ha, h => by
    simp only [goOn, Prod.mk.injEq] at h
    rw [← h.1]
    exact ⟨ha, rfl⟩
  | v :: r, a, x, ha, h => by
    unfold goOn at h
    split at h
    · next hj =>
      obtain ⟨_, h2, h3, _, h5⟩ := join_zero hj
      rw [h5] at h
      obtain ⟨g1, g2⟩ := goOn_may f hf r _ x (both_may ha h2 h3) h
      exact ⟨g1, g2⟩
    · next hj =>
      rw [h] at hj
      exact absurd rfl hj
theorem all_may {f v : Int} {r : List Int} {x : Ag} (hf : Ag.begin_ f) (h : all f (v :: r) = (x, 0)) : x.may ∧ x.fr = f := by
  have e : all f (v :: r) = goOn f (.one v f) r := by
    show (if Ag.begin_ f then _ else _) = _
    rw [if_pos hf]
  rw [e] at h
  exact goOn_may f hf r _ x (one_may hf) h
theorem flr_mod {t k : Int} (hk : coarse k) (ht : Ag.begin_ t) : flr t k % wid k = 0 := by
  have hw := coarse_wid hk
  rw [flr_some (by omega) ht]
  have := Int.emod_add_mul_ediv t (wid k)
  rw [show t - t % wid k = wid k * (t / wid k) by omega]
  exact Int.mul_emod_right _ _
theorem rawOn_al {k : Int} (hk : coarse k) : ∀ (n : Nat) (l : List (Int × Int)) (out res : List Ag) (p : Int), l.length ≤ n → Rise l → (∀ s r, l = s :: r → p ≤ flr s.1 k / wid k) → rawOn k out l = (res, 0) →
    ∃ S, res = out ++ S ∧ AlOn (wid k) p S ∧ S.length ≤ l.length
  | 0, l, out, res, p, hn, _, _, h => by
    obtain rfl : l = [] := List.eq_nil_of_length_eq_zero (by omega)
    rw [rawOn] at h
    simp only [Prod.mk.injEq] at h
    exact ⟨[], by rw [← h.1]; simp, trivial, by simp⟩
  | n + 1, [], out, res, p, hn, _, _, h => by
    rw [rawOn] at h
    simp only [Prod.mk.injEq] at h
    exact ⟨[], by rw [← h.1]; simp, trivial, by simp⟩
  | n + 1, s :: r, out, res, p, hn, hr, hp, h => by
    obtain ⟨c, hc⟩ : ∃ c, cnt (flr s.1 k + wid k) r = c := ⟨_, rfl⟩
    obtain ⟨⟨x, code⟩, hx⟩ : ∃ x, all (flr s.1 k) (s.2 :: (r.take c).map (·.2)) = x := ⟨_, rfl⟩
    rw [rawOn_cons k out s r hc hx] at h
    simp only at h
    split at h
    · next h0 =>
      subst h0
      have hs := rise_head hr
      obtain ⟨m1, m2⟩ := all_may (flr_begin hk hs) hx
      have hmod := flr_mod hk hs
      obtain ⟨S, e, hal, hlen⟩ := rawOn_al hk n (r.drop c) (out ++ [x]) res (flr s.1 k / wid k + 1) (by simp only [List.length_drop, List.length_cons] at *; omega) (rise_drop c (rise_tail hr)) (fun s' r' e => by
        have hab := head_above hk hr hc e
        have hs' : Ag.begin_ s'.1 := rise_head (e ▸ rise_drop c (rise_tail hr))
        exact (mult_lt (by have := coarse_wid hk; omega) hmod (flr_mod hk hs')).1 hab) h
      refine ⟨x :: S, by rw [e]; simp, ⟨m1, by rw [m2]; exact hmod, by rw [m2]; exact hp s r rfl, by rw [m2]; exact hal⟩, ?_⟩
      simp only [List.length_drop, List.length_cons] at *
      omega
    · next h0 =>
      simp only [Prod.mk.injEq] at h
      exact absurd h.2 h0
theorem raw_ok {k : Int} {l : List (Int × Int)} (hk : coarse k) (hr : Rise l) (hl : l.length ≤ 64) (h : (raw l k).2 = 0) : AOk k (raw l k).1 := by
  unfold raw at h ⊢
  rw [if_pos ⟨hk, hr⟩] at h ⊢
  obtain ⟨⟨res, code⟩, hx⟩ : ∃ x, rawOn k [] l = x := ⟨_, rfl⟩
  rw [hx] at h ⊢
  simp only at h
  subst h
  obtain ⟨S, e, hal, hlen⟩ := rawOn_al hk l.length l [] res 0 (Nat.le_refl _) hr (fun s r e => by
    subst e
    have := coarse_wid hk
    exact Int.ediv_nonneg (flr_le hk (rise_head hr)).1 (by omega)) hx
  simp only [List.nil_append] at e
  subst e
  exact ⟨(align_iff _ hk).2 hal, by simp only; omega⟩

theorem aOne_small {W p : Int} {a : Ag} (hW : 0 < W) (hp : 0 ≤ p) (hm : a.may) (ho : a.ok) (hf : a.fr % W = 0) : (∀ n ∈ aOne W p a, n < 18446744073709551616) ∧ (aOne W p a).length ≤ 7 := by
  obtain ⟨z1, z2⟩ := zig_nat ho.2.2.2.1
  obtain ⟨z3, z4⟩ := zig_nat ho.2.2.1
  have hb := hm.1
  have hd : a.fr / W ≤ a.fr := by
    have h1 := Int.ediv_le_self W hb.1
    exact h1
  obtain ⟨o0, o1, o2, o3, o4, o5, o6⟩ := ho
  unfold In64 at *
  unfold Ag.begin_ at hb
  unfold aOne
  refine ⟨fun n hn => ?_, by split <;> simp⟩
  split at hn
  · simp only [List.mem_cons, List.not_mem_nil, or_false] at hn
    omega
  · simp only [List.mem_cons, List.not_mem_nil, or_false] at hn
    omega
theorem aOn_small {W : Int} (hW : 0 < W) : ∀ (l : List Ag) (p : Int), AlOn W p l → AIn l → 0 ≤ p → (∀ n ∈ aOn W p l, n < 18446744073709551616) ∧ (aOn W p l).length ≤ 7 * l.length
  | [], _, _, _, _ => ⟨fun n hn => by simp [aOn] at hn, by simp [aOn]⟩
  | a :: r, p, h, hi, hp => by
    obtain ⟨h1, h2, h3, h4⟩ := h
    obtain ⟨g1, g2⟩ := aOne_small hW hp h1 (hi a (by simp)) h2
    obtain ⟨g3, g4⟩ := aOn_small hW r (a.fr / W + 1) h4 (fun y hy => hi y (by simp [hy])) (by omega)
    rw [aOn]
    refine ⟨fun n hn => ?_, by rw [List.length_append, List.length_cons]; omega⟩
    rw [List.mem_append] at hn
    rcases hn with hn | hn
    · exact g1 n hn
    · exact g3 n hn
theorem putA_small {k : Int} {l : List Ag} (h : AOk k l) (ho : AIn l) : (putA (wid k) l).length ≤ 6000 := by
  obtain ⟨g1, g2⟩ := aOn_small (wid_coarse h.1.1).1 l 0 ((align_iff l h.1.1).1 h.1) ho (by omega)
  have hl := h.2
  unfold putA
  have := bytesOf_len (l.length :: aOn (wid k) 0 l) (by
    intro n hn
    rw [List.mem_cons] at hn
    rcases hn with rfl | hn
    · omega
    · exact g1 n hn)
  rw [List.length_cons] at this
  omega
theorem putB_pos (l : List (Int × Int)) : 1 ≤ (putB l).length := by
  unfold putB
  cases l with
  | nil => simp [sNums, bytesOf_cons]; have := enc_ne 0; omega
  | cons x r =>
    simp only [sNums, bytesOf_cons, List.length_append]
    have := enc_ne (r.length + 1)
    omega

set_option maxRecDepth 100000 in
set_option maxHeartbeats 2000000 in
theorem walk (a0 : Option Addr) (len0 cap0 : Nat) (l0 : List Int) (a1 : Option Addr) (len1 cap1 : Nat) (l1 : List Int) (k cut : Int) (w : World) (s0 : Ints w a0 len0 cap0 l0) (s1 : Ints w a1 len1 cap1 l1) (w2 : (Lit.int .i64 k).wf = true) (w3 : (Lit.int .i64 cut).wf = true) (hw : Wid w) :
    Calls Tryd.prog 4 #[.slice a0 len0 cap0, .slice a1 len1 cap1, .int .i64 k, .int .i64 cut] w fun e w' => e = .returned (.bool true) ∧ Below w.heap.size w w' := by
  obtain ⟨i0, hi0, hz0, hz1, hz2⟩ := info_parts Tryd.info5
  have M0 := Lib.hid (rise_any 60 (by omega) s0 s1)
  have HWD : Hid (∀ w', Below w.heap.size w w' → Wid w') := Lib.hid (fun w' h => hw.below h)
  clear s0 s1 w2 w3 hw
  obtain ⟨U, hU⟩ : ∃ U, IntKind.u64.wrap k = U := ⟨_, rfl⟩
  obtain ⟨x, hx, hx0, hx3⟩ : ∃ x, U.tmod 3 = x ∧ 0 ≤ x ∧ x < 3 := ⟨_, rfl, Int.tmod_nonneg 3 (by rw [← hU, IntKind.wrap_u64]; omega), Int.tmod_lt_of_pos _ (by decide)⟩
  have hxi : IntKind.i64.wrap x = x := by rw [IntKind.wrap_i64]; omega
  have hxu : IntKind.u64.wrap x = x := by rw [IntKind.wrap_u64]; omega
  obtain ⟨t, ht⟩ : ∃ t, 1 + x = t := ⟨_, rfl⟩
  have hxt : IntKind.i64.wrap (1 + x) = t := by rw [IntKind.wrap_i64]; omega
  have hco : coarse t := by unfold coarse; omega
  have HCO := Lib.hid hco
  clear ht hx0 hx3 hco
  go_enter Tryd.func4, Tryd.ntmps4
  go_wp2_with fail
  refine M0.out.mono ?_
  rintro e w1 ⟨V, L, T, rfl, hmade⟩
  have hown := hmade.own
  have hn60 : min len0 60 ≤ 60 := Nat.min_le_right _ _
  rw [← hmade.len] at hown hn60
  obtain ⟨A1, ca1, rfl, hS1, hc1, hm1⟩ := own_form hown hmade.bits
  have hok : BOk L := ⟨hmade.rise, by omega⟩
  have hin : BIn L := hmade.bits
  have HB1 := Lib.hid hmade.below
  have HS1 := Lib.hid hS1
  have M1 := Lib.hid (fun w (h : Samps w A1 L) => kput_res rfl h hc1 hm1 hok)
  have mg := fun w A cap (h : Bytes w A (putB L)) (h1 : (putB L).length ≤ cap) (h2 : cap ≤ maxLen) => kget_any A _ cap (putB L) w rfl h h1 h2
  rw [getB_putB hok hin] at mg
  have mc := fun n (hn : n < (putB L).length) w A cap (h : Bytes w A ((putB L).take n)) (h1 : n ≤ cap) (h2 : cap ≤ maxLen) => kget_any A n cap ((putB L).take n) w (by rw [List.length_take]; omega) h h1 h2
  have HCUT := Lib.hid (fun n (hn : n < (putB L).length) => getB_cut hok hin hn)
  have HRO : Hid ((raw L t).2 = 0 → AOk t (raw L t).1) := Lib.hid (fun h => raw_ok HCO.out hmade.rise (by omega) h)
  have MRW := Lib.hid (fun w (h : Samps w A1 L) => rraw_any (cap := ca1) t rfl h hc1 hm1 (by omega))
  have hpos := putB_pos L
  have MG := Lib.hid mg
  have MC : Hid (∀ n, n < (putB L).length → ∀ w A cap, Bytes w A (putB L) → n ≤ cap → cap ≤ maxLen → Calls Tryd.prog 11 #[.slice A n cap] w (GetPost w none)) := Lib.hid (fun n hn w A cap h h1 h2 => by
    have := mc n hn w A cap (h.take n) h1 h2
    rw [HCUT.out n hn] at this
    exact this)
  have HOK := Lib.hid hok
  clear hmade hown hS1 mg mc hok hin HCUT M0 hn60
  generalize putB L = P at *
  obtain ⟨N, hN⟩ : ∃ N, P.length = N := ⟨_, rfl⟩
  rw [hN] at hpos M1 MG MC
  go_wp2_with fail
  refine (M1.out _ HS1.out).mono ?_
  rintro e w2 ⟨g2, ca2, rfl, hy2, hc2, hm2, _, hb2⟩
  have HB2 := Lib.hid (past HB1.out hb2)
  have HS2 := Lib.hid (HS1.out.below hb2)
  have HY2 := Lib.hid hy2
  clear hy2 hb2
  go_wp2_with fail
  refine (MG.out _ _ _ HY2.out hc2 hm2).mono ?_
  rintro e w3 ⟨⟨V, rfl, hown, hin⟩, hb3⟩
  obtain ⟨A3, ca3, rfl, hS3, hc3, hm3⟩ := own_form hown hin
  have HB3 := Lib.hid (past HB2.out hb3)
  have HS3 := Lib.hid (HS2.out.below hb3)
  have HY3 := Lib.hid (HY2.out.below hb3)
  have M3 := Lib.hid (sames_any rfl hS3 HS3.out hc3 hc1 hm3 hm1)
  have hN1 : ¬ (N : Int) < 1 := by omega
  clear hown hin hS3 hb3
  go_wp2_with fail
  refine M3.out.mono ?_
  rintro e w4 ⟨rfl, hb4⟩
  have HB4 := Lib.hid (past HB3.out hb4)
  have HS4 := Lib.hid (HS3.out.below hb4)
  have HY4 := Lib.hid (HY3.out.below hb4)
  clear hb4 M3
  obtain ⟨Q, hQ⟩ : ∃ Q, IntKind.u64.wrap cut = Q := ⟨_, rfl⟩
  have hNu : IntKind.u64.wrap (N : Int) = (N : Int) := by
    unfold maxLen at hm2
    rw [IntKind.wrap_u64]
    omega
  obtain ⟨m, hm⟩ : ∃ m : Nat, Q.tmod (N : Int) = (m : Int) := ⟨(Q.tmod (N : Int)).toNat, by have := Int.tmod_nonneg (N : Int) (show 0 ≤ Q by rw [← hQ, IntKind.wrap_u64]; omega); omega⟩
  have hmN : m < N := by have := Int.tmod_lt_of_pos Q (show (0 : Int) < N by omega); omega
  have hmi : IntKind.i64.wrap (m : Int) = (m : Int) := by unfold maxLen at hm2; rw [IntKind.wrap_i64]; omega
  have hmu : IntKind.u64.wrap (m : Int) = (m : Int) := by unfold maxLen at hm2; rw [IntKind.wrap_u64]; omega
  have hN0 : ¬ (N : Int) = 0 := by omega
  have c1 : (0 : Int) ≤ (m : Int) := by omega
  have c2 : (m : Int) ≤ (ca2 : Int) := by omega
  have c3 : m ≤ ca2 := by omega
  have M5 := Lib.hid (MC.out m hmN _ _ _ HY4.out c3 hm2)
  go_wp2_with fail
  refine M5.out.mono ?_
  rintro e w5 ⟨rfl, hb5⟩
  have HB5 := Lib.hid (past HB4.out hb5)
  have HS5 := Lib.hid (HS4.out.below hb5)
  clear hb5 M5 MC hQ hNu hm hmi hmu hN0 c1 c2 c3
  go_wp2_with fail
  refine (MRW.out _ HS5.out).mono ?_
  rintro e w6 ⟨A6, ca6, rfl, hb6, hr6⟩
  have HB6 := Lib.hid (past HB5.out hb6)
  have HR6 := Lib.hid hr6
  clear hb6 hr6 MRW
  generalize raw L t = R at *
  obtain ⟨RL, RC⟩ := R
  simp only at *
  by_cases hrc : RC = 0
  · subst hrc
    have hok := HRO.out rfl
    have hl64 : ¬ (64 : Int) < (RL.length : Int) := by have := hok.2; omega
    have hain : AIn RL := HR6.out.2.1.1
    have m7 := (kputa_any t HR6.out.1 HR6.out.2.1 HR6.out.2.2.1 HR6.out.2.2.2.1 (HWD.out _ HB6.out) hok).mono fun _ _ h => h.res (putA_byte _ _)
    have g1 := getA_putA hok hain
    have g2 := getA_behind hok hain (x := [1]) (by simp)
    have hby := putA_byte (wid t) RL
    have hppos : 1 ≤ (putA (wid t) RL).length := by
      unfold putA
      rw [bytesOf_cons, List.length_append]
      have := enc_ne RL.length
      omega
    have hplen := putA_small hok hain
    have MG1 : Hid (∀ w' A cap, Below w.heap.size w w' → Bytes w' A (putA (wid t) RL) → (putA (wid t) RL).length ≤ cap → cap ≤ maxLen → Calls Tryd.prog 15 #[.slice A (putA (wid t) RL).length cap, .int .i64 t] w' (GetAPost w' (some RL))) := Lib.hid (fun w' A cap hb h h1 h2 => by
      have := kgeta_in A _ cap _ t w' rfl h h1 h2 HCO.out (HWD.out _ hb)
      rw [g1] at this
      exact this)
    have MG2 : Hid (∀ w' A cap, Below w.heap.size w w' → Bytes w' A (putA (wid t) RL ++ [1]) → (putA (wid t) RL).length + 1 ≤ cap → cap ≤ maxLen → Calls Tryd.prog 15 #[.slice A ((putA (wid t) RL).length + 1) cap, .int .i64 t] w' (GetAPost w' none)) := Lib.hid (fun w' A cap hb h h1 h2 => by
      have := kgeta_in A ((putA (wid t) RL).length + 1) cap _ t w' (by simp) h h1 h2 HCO.out (HWD.out _ hb)
      rw [g2] at this
      exact this)
    have HBY : Hid (∀ c ∈ putA (wid t) RL ++ [1], c < 256) := Lib.hid (by
      intro c hc
      rw [List.mem_append, List.mem_singleton] at hc
      rcases hc with hc | rfl
      · exact hby c hc
      · omega)
    have M7 := Lib.hid m7
    clear m7 g1 g2 hby hok hain HRO
    generalize putA (wid t) RL = D at *
    obtain ⟨E, hE⟩ : ∃ E, D.length = E := ⟨_, rfl⟩
    rw [hE] at M7 MG1 MG2 hppos hplen
    have HE := Lib.hid hE
    clear hE
    go_wp2_with fail
    refine M7.out.mono ?_
    rintro e w7 ⟨g7, ca7, rfl, hy7, hc7, hm7, _, hb7⟩
    have HB7 := Lib.hid (past HB6.out hb7)
    have HR7 := Lib.hid (HR6.out.below hb7)
    have HY7 := Lib.hid hy7
    clear hy7 hb7
    go_wp2_with fail
    refine (MG1.out _ _ _ HB7.out HY7.out hc7 hm7).mono ?_
    rintro e w8 ⟨⟨V, rfl, hown, hin⟩, hb8⟩
    obtain ⟨A8, ca8, rfl, hR8⟩ := rowOf_own hown hin
    have HB8 := Lib.hid (past HB7.out hb8)
    have HR8 := Lib.hid (HR7.out.below hb8)
    have HX8 := Lib.hid hR8
    have HY8 := Lib.hid (HY7.out.below hb8)
    clear hown hin hR8 hb8
    have HEM := Lib.hid (own_empty w8)
    have HNW : Hid (∀ j u, (bytesV D)[j]? = some u → (w8.alloc (.cells #[] 5)).cell? ((⟨g7, 0, none⟩ : Addr).add j) = some u) := Lib.hid (Bytes.news (HY8.out.below (past_alloc (Below.refl _ _) _)))
    have hs8 : w8.heap.size ≤ (w8.alloc (.cells #[] 5)).heap.size := by simp
    have HG9 := Lib.hid (past_alloc (Below.refl w8.heap.size w8) (.cells #[] 5))
    have HLN : Hid ((bytesV D).length = E * 1) := Lib.hid (by rw [bytesV_length, HE.out]; omega)
    go_wp2_with (at_builtin; refine wpList_append_lies _ rfl _ _ 24 rfl w8.heap.size 5 i0 (.int .u8 0) 1 1 Tryd.underlying24 hi0 hz0 hz1 hz2 rfl (by decide) (.slice (some ⟨w8.heap.size, 0, none⟩) 0 0) 0 [] rfl HEM.out ⟨g7, 0, none⟩ E ca7 (bytesV D) rfl HLN.out HNW.out (bytesV_one _) hppos ?c3 ?c4 hs8 (w8.alloc (.cells #[] 5)).heap.size rfl ?_)
    case c3 => unfold maxLen; omega
    case c4 => omega
    intro g9 c9 w9 hown9 hgrow9 hat9 hlt9
    have HO9 : Hid (w9.ownsRow w8.heap.size 5 1 (.slice (some ⟨g9, 0, none⟩) E c9) E (bytesV D)) := Lib.hid (by simpa using hown9)
    have HB9 : Hid (Below w8.heap.size w8 w9) := Lib.hid (HG9.out.grown hgrow9 HG9.out.size (fun k e => by simp only [Value.ownBlock, Option.some.injEq] at e; omega))
    clear hown9 hgrow9 hat9 HNW HEM HG9 hlt9
    have HO10 := Lib.hid (own5_below HO9.out (past_alloc (Below.refl w9.heap.size w9) (.cells #[.int .u8 1] 5)))
    have hs9 : w8.heap.size ≤ (w9.alloc (.cells #[.int .u8 1] 5)).heap.size := by have := HB9.out.size; simp; omega
    have HNW : Hid (∀ j u, ([.int .u8 1] : List Value)[j]? = some u → (w9.alloc (.cells #[.int .u8 1] 5)).cell? ((⟨w9.heap.size, 0, none⟩ : Addr).add j) = some u) := Lib.hid (by
      intro j u hj
      match j, hj with
      | 0, hj => simp at hj; subst hj; simp [Addr.add])
    have HON : Hid (∀ u ∈ ([.int .u8 1] : List Value), u.oneCell' = true) := Lib.hid (by intro u hu; simp at hu; subst hu; rfl)
    go_wp2_with (at_builtin; refine wpList_append_lies _ rfl _ _ 24 rfl w8.heap.size 5 i0 (.int .u8 0) 1 1 Tryd.underlying24 hi0 hz0 hz1 hz2 rfl (by decide) (.slice (some ⟨g9, 0, none⟩) E c9) E (bytesV D) rfl HO10.out ⟨w9.heap.size, 0, none⟩ 1 1 [.int .u8 1] rfl rfl HNW.out HON.out (by decide) ?c3 ?c4 hs9 (w9.alloc (.cells #[.int .u8 1] 5)).heap.size rfl ?_)
    case c3 => unfold maxLen; omega
    case c4 => omega
    intro g11 c11 w11 hown11 hgrow11 hat11 hlt11
    have HO11 : Hid (w11.ownsRow w8.heap.size 5 1 (.slice (some ⟨g11, 0, none⟩) (E + 1) c11) (E + 1) (bytesV (D ++ [1]))) := Lib.hid (by rw [bytesV_append]; exact hown11)
    have HB11 : Hid (Below w8.heap.size w8 w11) := Lib.hid ((HB9.out.trans ((past_alloc (Below.refl w9.heap.size w9) _).mono HB9.out.size)).grown hgrow11 hs9 (fun k e => by simp only [Value.ownBlock, Option.some.injEq] at e; subst e; exact (HO9.out.lt _ rfl).1))
    obtain ⟨hy1, _, hy3, hy4, _, _⟩ := Bytes.own HO11.out HBY.out
    have HY11 := Lib.hid hy1
    have HBW := Lib.hid (past HB8.out HB11.out)
    clear hown11 hgrow11 hat11 hlt11 HNW HON HO10 hy1 hs9
    go_wp2_with fail
    refine (MG2.out _ _ _ HBW.out HY11.out hy3 hy4).mono ?_
    rintro e w12 ⟨rfl, hb12⟩
    have HB12 := Lib.hid (past HB11.out hb12)
    clear hb12
    go_wp2_with fail
    refine (told_any _).mono ?_
    rintro e w13 ⟨rfl, hb13⟩
    have HB13 := Lib.hid (past HB12.out hb13)
    clear hb13
    have M14 := Lib.hid (same_any (HX8.out.below HB13.out) (HR8.out.below HB13.out))
    go_wp2_with fail
    refine M14.out.mono ?_
    rintro e w14 ⟨rfl, hb14⟩
    have HB14 := Lib.hid (past HB8.out (past HB13.out hb14))
    clear hb14
    go_wp2
    go_ret
    exact ⟨rfl, HB14.out⟩
  · have hrc1 : (RC != 0) = true := by simpa using hrc
    go_wp2_with fail
    refine (told_any _).mono ?_
    rintro e w7 ⟨rfl, hb7⟩
    have HB7 := Lib.hid (past HB6.out hb7)
    clear hb7
    go_wp2
    go_ret
    exact ⟨rfl, HB7.out⟩
end Go.Proofs.YtfojciolhokejaaDoor.blockBack
