/-
  The walk of SegmentRolls: it returns true, and writes nothing that was there.
-/
import Derived.Test.YtepancmkopifpaaDoorMLaw
import Derived.Deep.DeepCutAuto
import Derived.Deep.QuietTactic
set_option maxRecDepth 100000
namespace Go.Proofs.YtepancmkopifpaaDoor.segmentRolls
open Go.RowKit
attribute [local go_sem ↓] Go.wp_at_zero Go.wp_at_succ
set_option linter.unusedVariables false

theorem take_succ_cns {X : List Ag} {j : Nat} (h : j < X.length) : cns (X.take (j + 1)) = cns (X.take j) + (agAt X j).cn ∧ sms (X.take (j + 1)) = sms (X.take j) + (agAt X j).sm := by
  have e : agAt X j = X[j] := by simp [agAt, h]
  rw [List.take_succ_eq_append_getElem h, cns_append, sms_append, e]
  simp [cns, sms]
theorem cns_bound : ∀ {X : List Ag}, (∀ a ∈ X, Sm a) → -1000000000 * cns X ≤ sms X ∧ sms X ≤ 1000000000 * cns X
  | [], _ => by simp [cns, sms]
  | a :: r, h => by
    have ih := cns_bound (X := r) (fun x hx => h x (by simp [hx]))
    have ha := (h a (by simp)).2
    simp only [cns, sms]
    omega
theorem cns_take {X : List Ag} (h : ∀ a ∈ X, Sm a) (j : Nat) : 0 ≤ cns (X.take j) ∧ cns (X.take j) ≤ cns X ∧ -1000000000 * cns (X.take j) ≤ sms (X.take j) ∧ sms (X.take j) ≤ 1000000000 * cns (X.take j) := by
  have h1 : ∀ a ∈ X.take j, Sm a := fun a ha => h a (List.mem_of_mem_take ha)
  have h2 := (cns_mem (l := X.drop j) (fun a ha => h a (List.mem_of_mem_drop ha))).1
  have e : cns X = cns (X.take j) + cns (X.drop j) := by rw [← cns_append, List.take_append_drop]
  have h3 := cns_bound h1
  exact ⟨(cns_mem h1).1, by omega, h3.1, h3.2⟩
/-- The sum of the first k values. -/
def sumT (l : List (Int × Int)) (k : Nat) : Int := sumL ((l.map (·.2)).take k)
theorem sumT_zero (l : List (Int × Int)) : sumT l 0 = 0 := by simp [sumT, sumL]
theorem sumT_succ (l : List (Int × Int)) (k : Nat) (hk : k < l.length) : sumT l (k + 1) = sumT l k + (l.getD k (0, 0)).2 := by
  have hk' : k < (l.map (·.2)).length := by rw [List.length_map]; exact hk
  unfold sumT
  rw [List.take_succ_eq_append_getElem hk', sumL_append, List.getD_eq_getElem?_getD, List.getElem?_eq_getElem hk]
  simp [sumL]
theorem sumT_all (l : List (Int × Int)) : sumT l l.length = sumL (l.map (·.2)) := by
  unfold sumT
  rw [List.take_of_length_le (by rw [List.length_map]; exact Nat.le_refl _)]
theorem small_at {l : List (Int × Int)} (h : SmallL l) {k : Nat} (hk : k < l.length) : -1000000000 < (l.getD k (0, 0)).2 ∧ (l.getD k (0, 0)).2 < 1000000000 := h _ (by
  rw [List.getD_eq_getElem?_getD, List.getElem?_eq_getElem hk]
  exact List.getElem_mem _)
theorem sumT_bound {l : List (Int × Int)} (h : SmallL l) : ∀ k, k ≤ l.length → -1000000000 * (k : Int) ≤ sumT l k ∧ sumT l k ≤ 1000000000 * (k : Int) := by
  intro k
  induction k with
  | zero => intro _; rw [sumT_zero]; omega
  | succ k ih =>
    intro hk
    have h1 := ih (by omega)
    have h2 := small_at h (k := k) (by omega)
    rw [sumT_succ l k (by omega)]
    omega
/-- What s holds ahead of round k. -/
def curS (S : Sg) (k : Nat) : Sg := if k = 1 then S else S.at_ (2000 + ((k : Int) - 1)) ((k : Int) - 1)
theorem cur_fr (S : Sg) (k : Nat) : (curS S k).fr = S.fr ∧ (curS S k).tz = S.tz := by
  unfold curS
  split
  · exact ⟨rfl, rfl⟩
  · exact ⟨rfl, rfl⟩
theorem cur_next (S : Sg) {k : Nat} (hk : 1 ≤ k) : curS S (k + 1) = S.at_ (2000 + (k : Int)) (k : Int) := by
  unfold curS
  rw [if_neg (by omega)]
  congr 1 <;> omega
theorem roll_step {S : Sg} (hS : Raw0 S) (hin : In2 S.sm) {k : Nat} (hk : 1 ≤ k ∧ k ≤ 3) {A : Option Addr} {n ca : Nat} {B : Option Addr} {m cb : Nat} {w : World} (h : SegAt w (curS S k) A n ca B m cb) (hw : Wid w) :
    Calls Tryd.prog 14 #[.slice (some ⟨w.heap.size, 0, none⟩) 1 1, .int .i64 (2000 + (k : Int)), .int .i64 (k : Int)] (w.alloc (.cells #[.int .i64 (curS S k).id, .int .i64 (curS S k).tier, .int .i64 (curS S k).fr, .int .i64 (curS S k).tz, .slice A n ca, .slice B m cb] 26))
      fun e w' => ∃ B' m' cb', e = .returned (.tuple #[.agg #[.int .i64 (2000 + (k : Int)), .int .i64 (k : Int), .int .i64 S.fr, .int .i64 S.tz, .slice none 0 0, .slice B' m' cb'], .int .i64 0]) ∧ RowOf w' B' m' cb' (wins k S.sm) ∧ Below w.heap.size w w' := by
  have hck : coarse (k : Int) := by unfold coarse; omega
  have hs := segs_one h
  have hw2 := hw.below (below_box w (.cells #[.int .i64 (curS S k).id, .int .i64 (curS S k).tier, .int .i64 (curS S k).fr, .int .i64 (curS S k).tz, .slice A n ca, .slice B m cb] 26))
  have hroll : rollS [curS S k] (2000 + (k : Int)) k = (S.at_ (2000 + (k : Int)) k, 0) := by
    by_cases h1 : k = 1
    · subst h1
      exact roll_raw hS (by omega)
    · unfold curS
      rw [if_neg h1]
      exact roll_on hS (by omega) (by omega) hck (by unfold coarse; omega)
  refine (rollG_any (L := 1) (c := 1) hs rfl (by omega) (Nat.le_refl _) (by omega) (by unfold In64; omega) (by unfold In64; omega) hw2 (fun _ _ hch u hu => ?_)).mono ?_
  · by_cases h1 : k = 1
    · subst h1
      have hc1 : curS S 1 = S := rfl
      rw [hc1] at hs ⊢
      exact rolled_raw (hs.below hu) rfl (Nat.le_refl _) (by omega) (by have := hS.has.2.2.1; simp; omega) (by simpa using hin) (hw2.below hu)
    · exact rolled_one (hs.below hu) (Nat.le_refl _) (by omega) hch.1 hch.2.1 hck (by omega) (hw2.below hu)
  · rintro e w' ⟨B', m', cb', he, hr, hb⟩
    rw [hroll] at he hr
    exact ⟨B', m', cb', he, hr, past (below_box _ _) hb⟩
/-- What a round of the loop finds. -/
structure RI (w wr : World) (g : Nat) (S : Sg) (k : Nat) (A : Option Addr) (n ca : Nat) (B : Option Addr) (m cb : Nat) : Prop where
  at_ : SegAt wr (curS S k) A n ca B m cb
  sv : SgV wr g (curS S k).id (curS S k).tier S.fr S.tz (.slice A n ca) (.slice B m cb)
  six : Six wr g
  wid : Wid wr
  below : Below w.heap.size w wr
  ge : w.heap.size ≤ g
theorem RI.later {w wr u : World} {g : Nat} {S : Sg} {k : Nat} {A : Option Addr} {n ca : Nat} {B : Option Addr} {m cb : Nat} (h : RI w wr g S k A n ca B m cb) (hb : Below wr.heap.size wr u) : RI w u g S k A n ca B m cb :=
  ⟨h.at_.below hb, h.sv.below hb, h.six.below h.sv.lt hb, h.wid.below hb, past h.below hb, h.ge⟩
theorem at_ok {S : Sg} (hS : Raw0 S) {id k : Int} (hid : In64 id) (hk : In64 k) {w : World} {B : Option Addr} {m cb : Nat} (hr : RowOf w B m cb (wins k S.sm)) : SegAt w (S.at_ id k) none 0 0 B m cb := by
  have hm := hS.may.2.2.1
  exact ⟨Row.none _, rfl, hr, ⟨hid, hk, by unfold In64; show _ ≤ S.fr ∧ S.fr ≤ _; omega, by unfold In64; show _ ≤ S.tz ∧ S.tz ≤ _; omega, fun x hx => by simp [Sg.at_] at hx, hr.2.1.1⟩⟩
theorem RI.next {w wr : World} {g : Nat} {S : Sg} {k : Nat} {A : Option Addr} {n ca : Nat} {B : Option Addr} {m cb : Nat} (h : RI w wr g S k A n ca B m cb) (hS : Raw0 S) (hk : 1 ≤ k ∧ k ≤ 3) {B2 : Option Addr} {m2 cb2 : Nat} (hr : RowOf wr B2 m2 cb2 (wins k S.sm)) (hn : g < wr.heap.size) (hgw : Wid ((((((wr.setCell ⟨g, 0, none⟩ (.int .i64 (2000 + (k : Int)))).setCell ⟨g, 1, none⟩ (.int .i64 (k : Int))).setCell ⟨g, 2, none⟩ (.int .i64 S.fr)).setCell ⟨g, 3, none⟩ (.int .i64 S.tz)).setCell ⟨g, 4, none⟩ (.slice none 0 0)).setCell ⟨g, 5, none⟩ (.slice B2 m2 cb2))) :
    RI w ((((((wr.setCell ⟨g, 0, none⟩ (.int .i64 (2000 + (k : Int)))).setCell ⟨g, 1, none⟩ (.int .i64 (k : Int))).setCell ⟨g, 2, none⟩ (.int .i64 S.fr)).setCell ⟨g, 3, none⟩ (.int .i64 S.tz)).setCell ⟨g, 4, none⟩ (.slice none 0 0)).setCell ⟨g, 5, none⟩ (.slice B2 m2 cb2)) g S (k + 1) none 0 0 B2 m2 cb2 := by
  refine ⟨?_, ?_, ?_, hgw, below_set6 h.below h.ge, h.ge⟩
  · rw [cur_next S hk.1]
    exact at_ok hS (by unfold In64; omega) (by unfold In64; omega) (hr.six6 h.six)
  · rw [cur_next S hk.1]
    obtain ⟨c0, c1, c2, c3, c4, c5, z0, z1, z2, z3, z4, z5⟩ := h.sv
    constructor <;> simp [go_sem, Sg.at_, *]
  · exact (((((h.six.set (by decide)).set (by decide)).set (by decide)).set (by decide)).set (by decide)).set (by decide)

set_option maxHeartbeats 1000000 in
theorem walk (a0 a1 : Int) (a2 : Option Addr) (len2 cap2 : Nat) (l2 : List Int) (a3 : Option Addr) (len3 cap3 : Nat) (l3 : List Int) (w : World) (w0 : (Lit.int .i64 a0).wf = true) (w1 : (Lit.int .i64 a1).wf = true) (s2 : Ints w a2 len2 cap2 l2) (z2 : len2 * 8 ≤ 140737488351232) (s3 : Ints w a3 len3 cap3 l3) (hw : Wid w) :
    Calls Tryd.prog 5 #[.int .i64 a0, .int .i64 a1, .slice a2 len2 cap2, .slice a3 len3 cap3] w fun e w' => e = .returned (.bool true) ∧ Below w.heap.size w w' := by
  have ha := fits_i64 w0
  obtain ⟨U, hU⟩ : ∃ U, IntKind.u64.wrap a1 = U := ⟨_, rfl⟩
  have hU0 : 0 ≤ U := by rw [← hU, IntKind.wrap_u64]; omega
  obtain ⟨x, hx, hx0, hx1⟩ : ∃ x : Int, U.tmod 100000 = x ∧ 0 ≤ x ∧ x < 100000 := ⟨_, rfl, Int.tmod_nonneg 100000 hU0, Int.tmod_lt_of_pos _ (by decide)⟩
  have k1 : IntKind.u64.wrap x = x := by rw [IntKind.wrap_u64]; omega
  have k2 : IntKind.i64.wrap x = x := by rw [IntKind.wrap_i64]; omega
  obtain ⟨n, hn⟩ : ∃ n, mkN len2 = n := ⟨_, rfl⟩
  have hn1 := mkN_in len2
  rw [hn] at hn1
  have MA : Hid (Calls Tryd.prog 11 #[.int .i64 a0, .int .i64 x, .slice a2 len2 cap2, .slice a3 len3 cap3] w (MakeG w (mkS a0 x l2 l3 len2 len3) n)) := Lib.hid (by rw [← hn]; exact make_any ha (by omega) s2 s3 z2)
  have HW := Lib.hid hw
  clear ha s2 s3 z2 w0 w1 hn hw
  generalize mkS a0 x l2 l3 len2 len3 = S at *
  go_enter Tryd.func5, Tryd.ntmps5
  go_wp2_with fail
  refine MA.out.mono ?_
  rintro e w2 ⟨A, ca, rfl, hs, hr, hb⟩
  obtain ⟨i, f, t, sm, rfl⟩ := raw0_parts hr
  go_upto_region 2 with fail
  have HX2 : Hid (Later (w2.alloc (.cells #[.int .i64 i, .int .i64 0, .int .i64 f, .int .i64 t, .slice A n ca, .slice none 0 0] 26)) fun u => RI w u w2.heap.size ⟨i, 0, f, t, sm, []⟩ 1 A n ca none 0 0) := Lib.hid (fun u hu => by
    have hb2 : Below w2.heap.size w2 u := past (below_box _ _) hu
    exact ⟨hs.below hb2, (SgV.new w2 i 0 f t (.slice A n ca) (.slice none 0 0) 26).below hu, (Six.new w2 (.int .i64 i) (.int .i64 0) (.int .i64 f) (.int .i64 t) (.slice A n ca) (.slice none 0 0) 26).below (by simp) hu, HW.out.below (past hb hb2), past hb hb2, hb.size⟩)
  have HR := Lib.hid hr
  have HLN : Hid (sm.length = n) := Lib.hid hs.sn
  clear hs hr hb MA hU hU0 hx hx0 hx1 k1 k2
  generalize (w2.alloc (.cells #[.int .i64 i, .int .i64 0, .int .i64 f, .int .i64 t, .slice A n ca, .slice none 0 0] 26)) = w2' at *
  generalize w2.heap.size = g at *
  have HZ0 := Lib.hid (sumT_zero sm)
  go_wp2
  go_loopw [10, 11] (fun su si wr => ∃ k : Nat, k ≤ n ∧ si = .int .i64 (k : Int) ∧ su = .int .i64 (sumT sm k) ∧ Hid (Below w2'.heap.size w2' wr)) (fun _ si _ => n - (intOf si).toNat)
  case atStart => exact ⟨0, by omega, rfl, by rw [HZ0.out], Lib.hid (Below.refl _ _)⟩
  case round =>
    obtain ⟨k, hk, rfl, rfl, HI⟩ := hrel
    have h4 := (HX2.out wr HI.out).sv.c4
    by_cases hlt : k < n
    · have hkl : k < sm.length := by rw [HLN.out]; exact hlt
      obtain ⟨b, off, rfl, hcs⟩ := (HX2.out wr HI.out).at_.sm.samps.2 (by show 0 < sm.length; omega)
      have hc := (hcs k hkl).2
      have hsb := sumT_bound HR.out.small k (by show k ≤ sm.length; omega)
      have hsm := small_at HR.out.small (k := k) hkl
      have hss := sumT_succ sm k hkl
      obtain ⟨v, hv⟩ : ∃ v, (sm.getD k (0, 0)).2 = v := ⟨_, rfl⟩
      have hc2 : wr.cell? ⟨b, off + k * 2 + 1, none⟩ = some (.int .i64 v) := by rw [← hv]; exact hc
      have hsm2 : -1000000000 < v ∧ v < 1000000000 := by rw [← hv]; exact hsm
      rw [hv] at hss
      have HSS := Lib.hid hss
      have hsb2 : -1000000000 * (k : Int) ≤ sumT sm k ∧ sumT sm k ≤ 1000000000 * (k : Int) := hsb
      generalize sumT sm k = s0 at *
      have q1 : IntKind.i64.wrap (s0 + v) = s0 + v := by rw [IntKind.wrap_i64]; omega
      have i1 : (0 : Int) ≤ (k : Int) := by omega
      have i2 : (k : Int) < (n : Int) := by omega
      clear hcs hc hsb hsm hss hv hsb2 hsm2
      go_wp2
      go_roundw
      case rel => exact ⟨k + 1, by omega, by go_num, by rw [HSS.out], HI⟩
      case measure => simp [intOf]; omega
    · obtain rfl : k = n := by omega
      have hsum : sumT sm k = sumL (sm.map (·.2)) := by rw [← HLN.out]; exact sumT_all sm
      have i2 : ¬ (k : Int) < (k : Int) := by omega
      rw [hsum]
      clear hsum
      have HX3 := Lib.hid (HX2.out.on HI.out)
      clear HI HX2
      have HS2 := Lib.hid (rfl : sumL (sm.map (·.2)) = sumL (sm.map (·.2)))
      generalize hSU : sumL (sm.map (·.2)) = SU at *
      have HSU := Lib.hid hSU
      clear hSU HS2
      go_wp2
      clear h4
      go_loopw [13] (fun sk wx => ∃ (q : Nat) (A' : Option Addr) (n' ca' : Nat) (B' : Option Addr) (m' cb' : Nat), 1 ≤ q ∧ q ≤ 4 ∧ sk = .int .i64 (q : Int) ∧ Hid (RI w wx g ⟨i, 0, f, t, sm, []⟩ q A' n' ca' B' m' cb')) (fun sk _ => 4 - (intOf sk).toNat)
      case atStart => exact ⟨1, _, _, _, _, _, _, by omega, by omega, rfl, Lib.hid HX3.out.now⟩
      case round =>
        obtain ⟨q, A', n', ca', B', m', cb', hq1, hq4, rfl, HI⟩ := hrel
        by_cases hlt : q ≤ 3
        · have hin : In2 sm := HX3.out.now.at_.ok.2.2.2.2.1
          have mr := roll_step HR.out hin ⟨hq1, hlt⟩ HI.out.at_ HI.out.wid
          have hv := HI.out.sv
          rw [(cur_fr _ q).1, (cur_fr _ q).2] at mr
          obtain ⟨I, hI⟩ : ∃ I, (curS ⟨i, 0, f, t, sm, []⟩ q).id = I := ⟨_, rfl⟩
          obtain ⟨K, hK⟩ : ∃ K, (curS ⟨i, 0, f, t, sm, []⟩ q).tier = K := ⟨_, rfl⟩
          rw [hI, hK] at mr hv
          have MR := Lib.hid mr
          obtain ⟨c0, c1, c2, c3, c4, c5, _⟩ := hv
          have i3 : (q : Int) ≤ 3 := by omega
          have q2 : IntKind.i64.wrap (2000 + (q : Int)) = 2000 + (q : Int) := by rw [IntKind.wrap_i64]; omega
          clear mr hI hK
          go_wp2_with fail
          refine MR.out.mono ?_
          rintro e w5 ⟨B2, m2, cb2, rfl, hr2, hb⟩
          go_upto_region 12 with fail
          have hb6 := below_box w5 (.cells #[.int .i64 (2000 + (q : Int)), .int .i64 (q : Int), .int .i64 f, .int .i64 t, .slice none 0 0, .slice B2 m2 cb2] 26)
          have HX6 : Hid (Later (w5.alloc (.cells #[.int .i64 (2000 + (q : Int)), .int .i64 (q : Int), .int .i64 f, .int .i64 t, .slice none 0 0, .slice B2 m2 cb2] 26)) fun u => RI w u g ⟨i, 0, f, t, sm, []⟩ q A' n' ca' B' m' cb' ∧ SgV u w5.heap.size (2000 + (q : Int)) (q : Int) f t (.slice none 0 0) (.slice B2 m2 cb2) ∧ RowOf u B2 m2 cb2 (wins (q : Int) sm)) := Lib.hid (fun u hu => ⟨HI.out.later (past hb (past hb6 hu)), (SgV.new w5 (2000 + (q : Int)) (q : Int) f t (.slice none 0 0) (.slice B2 m2 cb2) 26).below hu, hr2.below (past hb6 hu)⟩)
          clear hb hb6 hr2 MR HI c0 c1 c2 c3 c4 c5
          generalize (w5.alloc (.cells #[.int .i64 (2000 + (q : Int)), .int .i64 (q : Int), .int .i64 f, .int .i64 t, .slice none 0 0, .slice B2 m2 cb2] 26)) = w6 at *
          generalize w5.heap.size = gr at *
          have hck : coarse (q : Int) := by unfold coarse; omega
          have hl1000 : sm.length ≤ 1000 := by rw [HLN.out]; omega
          have hsay := wins_says hck sm.length sm (Nat.le_refl _) hl1000 HR.out.has.2.2.2.1 HR.out.small
          have HMAY : Hid (Sg.may ⟨2000 + (q : Int), (q : Int), f, t, [], wins (q : Int) sm⟩) := Lib.hid (at_may_ HR.out (id := 2000 + (q : Int)) (by omega) hck)
          have HSEG : Hid (∀ u, Below w6.heap.size w6 u → SegAt u ⟨2000 + (q : Int), (q : Int), f, t, [], wins (q : Int) sm⟩ none 0 0 B2 m2 cb2) := Lib.hid (fun u hu => at_ok HR.out (by unfold In64; omega) (by unfold In64; omega) (HX6.out u hu).2.2)
          rw [HSU.out] at hsay
          have HSM : Hid (∀ a ∈ wins (q : Int) sm, Sm a) := Lib.hid (fun a ha => (hsay.2.1 a ha).1)
          have HCN : Hid (cns (wins (q : Int) sm) = (k : Int)) := Lib.hid (by rw [hsay.2.2.1, HLN.out])
          have HSMS : Hid (sms (wins (q : Int) sm) = SU) := Lib.hid hsay.2.2.2.1
          have HN2 : Hid ((wins (q : Int) sm).length = m2) := Lib.hid HX6.out.now.2.2.1
          have hm2 : m2 ≤ 40 := by have := hsay.2.2.2.2.1; rw [HN2.out, HLN.out] at this; omega
          clear hsay hl1000 hck
          have hsv := HX6.out.now.1.sv
          obtain ⟨c0, c1, c2, c3, c4, c5, _⟩ := hsv
          obtain ⟨d0, d1, d2, d3, d4, d5, _⟩ := HX6.out.now.2.1
          go_wp2_with fail
          have m1 := mayG_any (HSEG.out _ (Below.refl _ _)) HX6.out.now.1.wid
          rw [decide_eq_true HMAY.out] at m1
          refine m1.mono ?_
          rintro e w7 ⟨rfl, hb⟩
          have HX7 := Lib.hid (HX6.out.on hb)
          clear hb m1 HX6 HSEG c0 c1 c2 c3 c4 c5 d0 d1 d2 d3 d4 d5
          go_wp2
          generalize hX : wins (q : Int) sm = X at *
          have HXE := Lib.hid hX
          clear hX
          go_loopw [16, 17, 18] (fun sc sa si wx => ∃ j : Nat, j ≤ m2 ∧ si = .int .i64 (j : Int) ∧ sc = .int .i64 (cns (X.take j)) ∧ sa = .int .i64 (sms (X.take j)) ∧ Hid (Below w7.heap.size w7 wx)) (fun _ _ si _ => m2 - (intOf si).toNat)
          case atStart => exact ⟨0, by omega, rfl, rfl, rfl, Lib.hid (Below.refl _ _)⟩
          case round =>
            obtain ⟨j, hj, rfl, rfl, rfl, HX⟩ := hrel
            have d5 := (HX7.out _ HX.out).2.1.c5
            by_cases hjl : j < m2
            · obtain ⟨b, off, rfl, hcc⟩ := (HX7.out _ HX.out).2.2.form (by omega)
              obtain ⟨_, e1, e2, _⟩ := hcc _ (Below.refl _ _) j hjl
              have hts := take_succ_cns (X := X) (j := j) (by rw [HN2.out]; exact hjl)
              have hb1 := cns_take HSM.out j
              have hb2 := cns_take HSM.out (j + 1)
              rw [HCN.out] at hb1 hb2
              rw [hts.1, hts.2] at hb2
              have HTS := Lib.hid hts
              generalize agAt X j = a at e1 e2 hb2 HTS
              generalize cns (X.take j) = c at *
              generalize sms (X.take j) = s at *
              have q1 : IntKind.i64.wrap (c + a.cn) = c + a.cn := by rw [IntKind.wrap_i64]; omega
              have q2 : IntKind.i64.wrap (s + a.sm) = s + a.sm := by rw [IntKind.wrap_i64]; omega
              have i1 : (0 : Int) ≤ (j : Int) := by omega
              have i2 : (j : Int) < (m2 : Int) := by omega
              clear hcc hts hb1 hb2
              go_upto_region 18 with fail
              go_quiet (fail)
              have HX2' := Lib.hid (past HX.out (belowN wr nq))
              clear e1 e2 d5
              generalize wr.drewN nq = wy at *
              go_wp2
              go_roundw
              case rel => exact ⟨j + 1, by omega, by go_num, by rw [HTS.out.1], by rw [HTS.out.2], HX2'⟩
              case measure => simp [intOf]; omega
            · obtain rfl : j = m2 := by omega
              have e1 : cns (X.take j) = (k : Int) := by rw [List.take_of_length_le (by rw [HN2.out]; exact Nat.le_refl _)]; exact HCN.out
              have e2 : sms (X.take j) = SU := by rw [List.take_of_length_le (by rw [HN2.out]; exact Nat.le_refl _)]; exact HSMS.out
              rw [e1, e2]
              have i5 : ¬ (j : Int) < (j : Int) := by omega
              have HQ := Lib.hid (HX7.out _ HX.out)
              have hnext := HQ.out.1.next HR.out ⟨hq1, hlt⟩ (by rw [← HXE.out] at HQ; exact HQ.out.2.2) HQ.out.1.sv.lt (HW.out.below (below_set6 HQ.out.1.below HQ.out.1.ge))
              have HNEXT := Lib.hid hnext
              obtain ⟨c0, c1, c2, c3, c4, c5, z0, z1, z2, z3, z4, z5⟩ := HQ.out.1.sv
              obtain ⟨d0, d1, d2, d3, d4, _⟩ := HQ.out.2.1
              clear e1 e2 hnext
              go_wp2
              go_roundw
              case rel => exact ⟨q + 1, none, 0, 0, B2, j, cb2, by omega, by omega, by go_num, HNEXT⟩
              case measure => simp [intOf]; omega
        · have i3 : ¬ (q : Int) ≤ 3 := by omega
          go_wp2_with fail
          refine (told_any _ HI.out.wid).mono ?_
          rintro e w9 ⟨rfl, hb⟩
          have HB9 := Lib.hid (past HI.out.below hb)
          clear hb HI
          go_wp2
          go_ret
          exact ⟨rfl, HB9.out⟩
end Go.Proofs.YtepancmkopifpaaDoor.segmentRolls
