/-
  set at every place; Parse at every text: what it returns; nothing that was there is written.
-/
import Derived.Test.YtdpoahjgdndnhaaDoorPRead
namespace Go.Proofs.YtdpoahjgdndnhaaDoor
open Go.RowKit
set_option linter.unusedVariables false

/-- Block g holds the policy p. -/
def PHold (w : World) (g : Nat) (p : Pol) : Prop :=
  w.cell? ⟨g, 0, none⟩ = some (.int .i64 p.a0) ∧ w.cell? ⟨g, 1, none⟩ = some (.int .i64 p.a1) ∧ w.cell? ⟨g, 2, none⟩ = some (.int .i64 p.a2) ∧
  w.cell? ⟨g, 3, none⟩ = some (.int .i64 p.a3) ∧ w.cell? ⟨g, 4, none⟩ = some (.int .i64 p.cn) ∧ w.cell? ⟨g, 5, none⟩ = some (.int .i64 p.sp)
def Open6 (w : World) (g : Nat) : Prop := ∀ i, i < 6 → w.frozen? ⟨g, i, none⟩ = false
/-- Block g holds six bools. -/
def BHold (w : World) (g : Nat) (s : List Bool) : Prop := ∀ i, i < 6 → w.cell? ⟨g, i, none⟩ = some (.bool (s.getD i false))

theorem PHold.below {w w' : World} {g : Nat} {p : Pol} (h : PHold w g p) (hg : g < w.heap.size) (hb : Below w.heap.size w w') : PHold w' g p := by
  obtain ⟨h0, h1, h2, h3, h4, h5⟩ := h
  exact ⟨by rw [hb.cell hg]; exact h0, by rw [hb.cell hg]; exact h1, by rw [hb.cell hg]; exact h2, by rw [hb.cell hg]; exact h3, by rw [hb.cell hg]; exact h4, by rw [hb.cell hg]; exact h5⟩
theorem Open6.below {w w' : World} {g : Nat} (h : Open6 w g) (hg : g < w.heap.size) (hb : Below w.heap.size w w') : Open6 w' g := fun i hi => by rw [hb.frozen hg]; exact h i hi
theorem BHold.below {w w' : World} {g : Nat} {s : List Bool} (h : BHold w g s) (hg : g < w.heap.size) (hb : Below w.heap.size w w') : BHold w' g s := fun i hi => by rw [hb.cell hg]; exact h i hi
theorem PHold.at {w : World} {g : Nat} {p : Pol} (h : PHold w g p) : ∀ k, k < 6 → w.cell? ⟨g, k, none⟩ = some (.int .i64 (p.at k)) := by
  obtain ⟨h0, h1, h2, h3, h4, h5⟩ := h
  intro k hk
  match k, hk with
  | 0, _ => exact h0
  | 1, _ => exact h1
  | 2, _ => exact h2
  | 3, _ => exact h3
  | 4, _ => exact h4
  | 5, _ => exact h5

theorem set_any (g k : Nat) (n : Int) (p : Pol) (w : World) (hk : k < 6) (h : PHold w g p) (hf : Open6 w g) :
    Calls Tryd.prog 84 #[.pointer (some ⟨g, 0, none⟩), .int .i64 (k : Int), .int .i64 n] w fun e w' => e = .returned (.tuple #[]) ∧ w' = w.setCell ⟨g, k, none⟩ (.int .i64 ((p.put k n).at k)) := by
  match k, hk with
  | 0, _ => exact set_age g 0 n _ w (by decide) (h.at 0 (by decide)) (hf 0 (by decide))
  | 1, _ => exact set_age g 1 n _ w (by decide) (h.at 1 (by decide)) (hf 1 (by decide))
  | 2, _ => exact set_age g 2 n _ w (by decide) (h.at 2 (by decide)) (hf 2 (by decide))
  | 3, _ => exact set_age g 3 n _ w (by decide) (h.at 3 (by decide)) (hf 3 (by decide))
  | 4, _ => exact set_count g n _ w (h.at 4 (by decide)) (hf 4 (by decide))
  | 5, _ => exact set_span g n _ w (h.at 5 (by decide)) (hf 5 (by decide))
theorem setOther (w : World) (g g' k i : Nat) (x : Value) (h : g ≠ g') : (w.setCell ⟨g', k, none⟩ x).cell? ⟨g, i, none⟩ = w.cell? ⟨g, i, none⟩ := by
  simp [go_sem]
theorem put_hold {w : World} {g k : Nat} {p : Pol} (n : Int) (h : PHold w g p) (hk : k < 6) : PHold (w.setCell ⟨g, k, none⟩ (.int .i64 ((p.put k n).at k))) g (p.put k n) := by
  have h' := h
  obtain ⟨h0, h1, h2, h3, h4, h5⟩ := h
  match k, hk with
  | 0, _ | 1, _ | 2, _ | 3, _ | 4, _ | 5, _ => unfold PHold Pol.put Pol.at; simp [go_sem, h0, h1, h2, h3, h4, h5]
theorem said_hold {w : World} {g k : Nat} {s : List Bool} (h : BHold w g s) (hk : k < 6) (hl : s.length = 6) : BHold (w.setCell ⟨g, k, none⟩ (.bool true)) g (s.set k true) := by
  intro i hi
  by_cases e : k = i
  · subst e
    have := h k hk
    simp [go_sem, this, hl, hk]
  · have := h i hi
    simp [go_sem, this, List.getD_eq_getElem?_getD, List.getElem?_set_ne e]
theorem put_ok {p : Pol} {k : Nat} {n : Int} (hp : p.ok) (h0 : 0 ≤ n) (h1 : n < 10000000000000) : (p.put k n).ok := by
  unfold Pol.ok In64 at *
  unfold Pol.put
  split <;> simp only <;> omega

/-- What Parse's loop holds. -/
structure PInv (w wr : World) (g2 g5 g6 : Nat) (l : List UInt8) (n : Nat) (rest : List UInt8) (more : Bool) (p : Pol) (said : List Bool) (R : Pol × Int × Int) : Prop where
  len : rest.length ≤ l.length
  cnt : n + (if more then rest.length + 1 else 0) ≤ l.length + 1
  says : R = parseOn n p said (if more then pieces 10 rest else [])
  slen : said.length = 6
  ok : p.ok
  hp : PHold wr g5 p
  hs : BHold wr g6 said
  hz : PHold wr g2 Pol.zero
  fp : Open6 wr g5
  fs : Open6 wr g6
  fz : Open6 wr g2
  below : Below w.heap.size w wr
  n2 : w.heap.size ≤ g2 ∧ g2 < wr.heap.size
  n5 : w.heap.size ≤ g5 ∧ g5 < wr.heap.size
  n6 : w.heap.size ≤ g6 ∧ g6 < wr.heap.size
  n25 : g2 ≠ g5
  n26 : g2 ≠ g6
  n56 : g5 ≠ g6
theorem PInv.on {w wr wr' : World} {g2 g5 g6 : Nat} {l : List UInt8} {n : Nat} {rest : List UInt8} {more : Bool} {p : Pol} {said : List Bool} {R : Pol × Int × Int} (h : PInv w wr g2 g5 g6 l n rest more p said R) (hb : Below wr.heap.size wr wr') : PInv w wr' g2 g5 g6 l n rest more p said R :=
  ⟨h.len, h.cnt, h.says, h.slen, h.ok, h.hp.below h.n5.2 hb, h.hs.below h.n6.2 hb, h.hz.below h.n2.2 hb, h.fp.below h.n5.2 hb, h.fs.below h.n6.2 hb, h.fz.below h.n2.2 hb, past h.below hb, ⟨h.n2.1, Nat.lt_of_lt_of_le h.n2.2 hb.size⟩, ⟨h.n5.1, Nat.lt_of_lt_of_le h.n5.2 hb.size⟩, ⟨h.n6.1, Nat.lt_of_lt_of_le h.n6.2 hb.size⟩, h.n25, h.n26, h.n56⟩
theorem below_set6 {w wr : World} {B g' o0 o1 o2 o3 o4 o5 : Nat} {v0 v1 v2 v3 v4 v5 : Value} (h : Below B w wr) (hg : B ≤ g') :
    Below B w ((((((wr.setCell ⟨g', o0, none⟩ v0).setCell ⟨g', o1, none⟩ v1).setCell ⟨g', o2, none⟩ v2).setCell ⟨g', o3, none⟩ v3).setCell ⟨g', o4, none⟩ v4).setCell ⟨g', o5, none⟩ v5) :=
  (((((h.setCell hg _).setCell hg _).setCell hg _).setCell hg _).setCell hg _).setCell hg _
def parseM : Value → Value → Nat
  | sr, .bool true => lenS sr + 1
  | _, _ => 0
theorem Nam.below {w w' : World} (h : Nam w) (hn : 0 < w.heap.size) (hb : Below w.heap.size w w') : Nam w' := fun i hi => by rw [hb.cell hn]; exact h i hi

theorem cut1_some_ne {c : UInt8} {r : List UInt8} (h : (cut1 c r).2.2 = true) : (cut1 c r).2.1.length < r.length := by
  refine (cut1_len c r).2.2 ?_
  intro e
  subst e
  simp [cut1] at h
theorem parseM_lt (c : UInt8) (r : List UInt8) : parseM (.string ⟨(cut1 c r).2.1.toArray⟩) (.bool (cut1 c r).2.2) < parseM (.string ⟨r.toArray⟩) (.bool true) := by
  cases h : (cut1 c r).2.2 with
  | false => simp [parseM]
  | true =>
    have := cut1_some_ne h
    simp only [parseM, lenS, ByteArray.size, List.size_toArray]
    omega
/-- Behind a line. -/
theorem PInv.next {w wr : World} {g2 g5 g6 : Nat} {l : List UInt8} {n : Nat} {rest : List UInt8} {p : Pol} {said : List Bool} {R : Pol × Int × Int} (h : PInv w wr g2 g5 g6 l n rest true p said R) :
    (cut1 10 rest).2.1.length ≤ l.length ∧ n + 1 + (if (cut1 10 rest).2.2 then (cut1 10 rest).2.1.length + 1 else 0) ≤ l.length + 1 ∧ R = parseOn n p said ((cut1 10 rest).1 :: (if (cut1 10 rest).2.2 then pieces 10 (cut1 10 rest).2.1 else [])) := by
  have hl := h.len
  have hc := h.cnt
  have hs := h.says
  simp only [if_true] at hc hs
  rw [pieces_cut] at hs
  refine ⟨Nat.le_trans (cut1_len 10 rest).2.1 hl, ?_, hs⟩
  cases e : (cut1 10 rest).2.2 with
  | false => simp; omega
  | true =>
    have := cut1_some_ne e
    simp
    omega

set_option maxRecDepth 100000 in
set_option maxHeartbeats 1000000 in
theorem parse_any (l : List UInt8) (w : World) (hl : l.length < 4611686018427387900) (hw : Nam w) (hn : 0 < w.heap.size) :
    Calls Tryd.prog 67 #[str l] w fun e w' => e = .returned (.tuple #[(parse l).1.val, .int .i64 (parse l).2.1, .int .i64 (parse l).2.2]) ∧ Below w.heap.size w w' := by
  have M0 := Lib.hid (fun w => default_any w)
  unfold Pol.dflt Pol.val at M0
  obtain ⟨R, hR⟩ : ∃ R, parse l = R := ⟨_, rfl⟩
  rw [hR]
  have HR := Lib.hid hR
  have HL := Lib.hid hl
  have HW := Lib.hid hw
  unfold str
  clear hR hl hw
  go_enter Tryd.func67, Tryd.ntmps67
  go_wp2
  go_step3
  go_wp2_with fail
  refine (M0.out _).mono ?_
  rintro e w2 ⟨rfl, hb2⟩
  have hb0 : Below w.heap.size w (w.alloc (.cells #[.int .i64 0, .int .i64 0, .int .i64 0, .int .i64 0, .int .i64 0, .int .i64 0] 39)) := past_alloc (Below.refl _ _) _
  have hlt2 : w.heap.size < w2.heap.size := by have := hb2.size; simp at this; omega
  have HST : Hid (PInv w ((w2.alloc (.cells #[.int .i64 60, .int .i64 600, .int .i64 6000, .int .i64 0, .int .i64 8, .int .i64 30] 39)).alloc (.cells #[.bool false, .bool false, .bool false, .bool false, .bool false, .bool false] 122)) w.heap.size w2.heap.size (w2.heap.size + 1) l 0 l true Pol.dflt saidNone R) := Lib.hid (by
    have hz0 : PHold w2 w.heap.size Pol.zero := PHold.below (w := w.alloc (.cells #[.int .i64 0, .int .i64 0, .int .i64 0, .int .i64 0, .int .i64 0, .int .i64 0] 39)) (by unfold PHold Pol.zero; simp) (by simp) hb2
    have hf0 : Open6 w2 w.heap.size := Open6.below (w := w.alloc (.cells #[.int .i64 0, .int .i64 0, .int .i64 0, .int .i64 0, .int .i64 0, .int .i64 0] 39)) (fun i hi => by simp) (by simp) hb2
    have hba : Below w2.heap.size w2 ((w2.alloc (.cells #[.int .i64 60, .int .i64 600, .int .i64 6000, .int .i64 0, .int .i64 8, .int .i64 30] 39)).alloc (.cells #[.bool false, .bool false, .bool false, .bool false, .bool false, .bool false] 122)) := past_alloc (past_alloc (Below.refl _ _) _) _
    refine ⟨Nat.le_refl _, by simp, ?_, rfl, by decide, ?_, ?_, hz0.below hlt2 hba, ?_, ?_, hf0.below hlt2 hba, past (past hb0 hb2) hba, ⟨Nat.le_refl _, ?_⟩, ⟨Nat.le_of_lt hlt2, ?_⟩, ⟨?_, ?_⟩, ?_, ?_, ?_⟩
    · rw [← HR.out]; rfl
    · unfold PHold Pol.dflt; simp
    · intro i hi
      match i, hi with
      | 0, _ | 1, _ | 2, _ | 3, _ | 4, _ | 5, _ => simp [saidNone]
    · intro i hi; simp
    · intro i hi; simp
    · simp; omega
    · simp; omega
    · omega
    · simp
    · omega
    · omega
    · omega)
  have HN0 : Hid (w.heap.size ≤ w2.heap.size) := Lib.hid (Nat.le_of_lt hlt2)
  clear hb0 hb2 hlt2 M0 HR
  go_wp2
  generalize (w2.alloc (.cells #[.int .i64 60, .int .i64 600, .int .i64 6000, .int .i64 0, .int .i64 8, .int .i64 30] 39)).alloc (.cells #[.bool false, .bool false, .bool false, .bool false, .bool false, .bool false] 122) = ws at *
  generalize w2.heap.size + 1 = g6 at *
  generalize w2.heap.size = g5 at *
  obtain ⟨g2, hg2⟩ : ∃ g2, g2 = w.heap.size := ⟨_, rfl⟩
  have HST2 : Hid (PInv w ws g2 g5 g6 l 0 l true Pol.dflt saidNone R) := by rw [hg2]; exact HST
  rw [← hg2]
  clear hg2 HST
  go_step3
  go_wp2
  go_loopw [7, 8, 9] (fun sn sr sm wr => ∃ (n : Nat) (r : List UInt8) (more : Bool) (p : Pol) (said : List Bool), sn = .int .i64 (n : Int) ∧ sr = .string ⟨r.toArray⟩ ∧ sm = .bool more ∧ Hid (PInv w wr g2 g5 g6 l n r more p said R)) (fun _ sr sm _ => parseM sr sm)
  case atStart => exact ⟨0, l, true, Pol.dflt, saidNone, rfl, rfl, rfl, HST2⟩
  case round =>
    obtain ⟨n, r, more, p, said, rfl, rfl, rfl, HI⟩ := hrel
    clear HST2
    cases more
    case false =>
      have HS : Hid (R = if p.may then (p, 0, 0) else (Pol.zero, 5, 0)) := Lib.hid HI.out.says
      have m1 := fun w => may_any p w HI.out.ok
      obtain ⟨c0, c1, c2, c3, c4, c5⟩ := HI.out.hp
      obtain ⟨b, hb⟩ : ∃ b, b = decide p.may := ⟨_, rfl⟩
      simp only [← hb] at m1
      have HB := Lib.hid hb
      clear hb
      obtain ⟨a0, a1, a2, a3, cn, sp⟩ := p
      unfold Pol.val at m1
      simp only at m1 c0 c1 c2 c3 c4 c5
      have M1 := Lib.hid m1
      clear m1
      go_wp2_with fail
      refine (M1.out _).mono ?_
      rintro e w4 ⟨rfl, hb4⟩
      have HI4 := Lib.hid (HI.out.on hb4)
      clear c0 c1 c2 c3 c4 c5 HI M1
      have hb4' := hb4
      clear hb4
      obtain ⟨c0, c1, c2, c3, c4, c5⟩ := HI4.out.hp
      obtain ⟨z0, z1, z2, z3, z4, z5⟩ := HI4.out.hz
      have f0 := HI4.out.fz 0 (by decide)
      have f1 := HI4.out.fz 1 (by decide)
      have f2 := HI4.out.fz 2 (by decide)
      have f3 := HI4.out.fz 3 (by decide)
      have f4 := HI4.out.fz 4 (by decide)
      have f5 := HI4.out.fz 5 (by decide)
      unfold Pol.zero at z0 z1 z2 z3 z4 z5
      simp only at c0 c1 c2 c3 c4 c5 z0 z1 z2 z3 z4 z5
      have HG : Hid (Below w.heap.size w w4 ∧ w.heap.size ≤ g2) := Lib.hid ⟨HI4.out.below, HI4.out.n2.1⟩
      clear HI4 hb4'
      cases b
      · have HF : Hid (R = (Pol.zero, 5, 0)) := Lib.hid (by rw [HS.out, if_neg (of_decide_eq_false HB.out.symm)])
        clear HS HB
        go_wp2
        (try rw [Exit.noGoto_ret])
        refine bodyPost_ret (v := .tuple #[.agg #[.int .i64 0, .int .i64 0, .int .i64 0, .int .i64 0, .int .i64 0, .int .i64 0], .int .i64 5, .int .i64 0]) ?_ rfl ⟨?_, ?_⟩
        · simp [results, Tryd.results67, go_sem, *]
        · rw [HF.out]; rfl
        · exact below_set6 HG.out.1 HG.out.2
      · have HF : Hid (R = (⟨a0, a1, a2, a3, cn, sp⟩, 0, 0)) := Lib.hid (by rw [HS.out, if_pos (of_decide_eq_true HB.out.symm)])
        clear HS HB
        go_wp2
        (try rw [Exit.noGoto_ret])
        refine bodyPost_ret (v := .tuple #[.agg #[.int .i64 a0, .int .i64 a1, .int .i64 a2, .int .i64 a3, .int .i64 cn, .int .i64 sp], .int .i64 0, .int .i64 0]) ?_ rfl ⟨?_, ?_⟩
        · simp [results, Tryd.results67, go_sem, *]
        · rw [HF.out]; rfl
        · exact below_set6 HG.out.1 HG.out.2
    have hrl : r.length < 4611686018427387904 := by have := HI.out.len; have := HL.out; omega
    have M1 := Lib.hid (fun w => cut_any r 10 w hrl)
    have M2 := Lib.hid (fun w => wordsOf_any (cut1 10 r).1 w (Nat.lt_of_le_of_lt (cut1_len 10 r).1 hrl))
    have HME := Lib.hid (parseM_lt 10 r)
    obtain ⟨hx1, hx2, hx3⟩ := HI.out.next
    unfold str at M1 M2
    generalize (cut1 10 r).2.2 = m' at *
    generalize (cut1 10 r).2.1 = r' at *
    generalize (cut1 10 r).1 = x at *
    have hnb : n + 1 ≤ 4611686018427387904 := by have := HL.out; omega
    have HX1 := Lib.hid hx1
    have HX2 := Lib.hid hx2
    have HX3 := Lib.hid hx3
    clear hx1 hx2 hx3 hrl
    go_wp2_with fail
    refine (M1.out _).mono ?_
    rintro e w3 ⟨rfl, n3, rfl⟩
    have HI3 := Lib.hid (HI.out.on (below_drewN wr n3))
    generalize wr.drewN n3 = w3 at *
    clear HI M1
    go_wp2_with fail
    refine (M2.out _).mono ?_
    rintro e w4 ⟨v, rfl, hown, hb4⟩
    have HI4 := Lib.hid (HI3.out.on hb4)
    have HO := Lib.hid hown
    obtain ⟨A, ca, hv⟩ : ∃ A ca, v = .slice A (words x).length ca := by
      rcases hown.2 with ⟨e, h0⟩ | ⟨g, cap, cur, e, _⟩
      · exact ⟨none, 0, by rw [h0]; exact e⟩
      · exact ⟨_, _, e⟩
    subst hv
    clear hown hb4 HI3 M2
    have hfour : (words x).length ≤ 4 := by unfold words; exact List.length_take_le _ _
    by_cases hw0 : words x = []
    · have HF : Hid (R = parseOn (n + 1) p said (if m' = true then pieces 10 r' else [])) := Lib.hid (by rw [HX3.out, parseOn, if_pos hw0])
      have h0 : ((words x).length : Int) = 0 := by rw [hw0]; rfl
      have h0' : (((words x).length : Int) == 0) = true := by simpa using h0
      clear hw0 h0
      generalize (words x).length = len at *
      go_wp2
      go_roundw
      case rel => exact ⟨n + 1, r', m', p, said, by go_num, rfl, rfl, Lib.hid { HI4.out with len := HX1.out, cnt := HX2.out, says := HF.out }⟩
      case measure => exact HME.out
    · have h0' : (((words x).length : Int) == 0) = false := by
        simp only [beq_eq_false_iff_ne, ne_eq]
        intro e
        exact hw0 (List.eq_nil_of_length_eq_zero (by omega))
      have HNAM : Hid (Nam w4) := Lib.hid (HW.out.below hn HI4.out.below)
      have M3 := Lib.hid (read_any (words x) _ w4 HNAM.out HO.out)
      have HF : Hid (R = if (readR (words x)).2.2 && !(said.getD (readR (words x)).1 false) then parseOn (n + 1) (p.put (readR (words x)).1 (readR (words x)).2.1) (said.set (readR (words x)).1 true) (if m' = true then pieces 10 r' else []) else (Pol.zero, 4, (n : Int) + 1)) := Lib.hid (by rw [HX3.out, parseOn, if_neg hw0])
      have hk6 := readR_lt (words x)
      have hfit := readR_fits (words x)
      clear hw0 HX3 HO HNAM
      generalize (readR (words x)).1 = k at *
      generalize (readR (words x)).2.1 = z at *
      generalize (readR (words x)).2.2 = is at *
      generalize (words x).length = len at *
      have HFIT := Lib.hid hfit
      have hk0 : (0 : Int) ≤ (k : Int) := by omega
      have hk6' : (k : Int) < 6 := by omega
      clear hfit
      go_wp2_with fail
      refine M3.out.mono ?_
      rintro e w5 ⟨rfl, rfl⟩
      clear M3
      obtain ⟨sd, hsd⟩ : ∃ sd, sd = said.getD k false := ⟨_, rfl⟩
      have cs : w4.cell? ⟨g6, k, none⟩ = some (.bool sd) := by rw [hsd]; exact HI4.out.hs k hk6
      have fs := HI4.out.fs k hk6
      rw [← hsd] at HF
      have HSD := Lib.hid hsd
      clear hsd
      obtain ⟨z0, z1, z2, z3, z4, z5⟩ := HI4.out.hz
      have f0 := HI4.out.fz 0 (by decide)
      have f1 := HI4.out.fz 1 (by decide)
      have f2 := HI4.out.fz 2 (by decide)
      have f3 := HI4.out.fz 3 (by decide)
      have f4 := HI4.out.fz 4 (by decide)
      have f5 := HI4.out.fz 5 (by decide)
      unfold Pol.zero at z0 z1 z2 z3 z4 z5
      simp only at z0 z1 z2 z3 z4 z5
      have HG : Hid (Below w.heap.size w w4 ∧ w.heap.size ≤ g2) := Lib.hid ⟨HI4.out.below, HI4.out.n2.1⟩
      cases is
      case false =>
        have HE : Hid (R = (Pol.zero, 4, (n : Int) + 1)) := Lib.hid (by rw [HF.out]; rfl)
        clear HF
        go_wp2
        (try rw [Exit.noGoto_ret])
        refine bodyPost_ret (v := .tuple #[.agg #[.int .i64 0, .int .i64 0, .int .i64 0, .int .i64 0, .int .i64 0, .int .i64 0], .int .i64 4, .int .i64 ((n : Int) + 1)]) ?_ rfl ⟨?_, ?_⟩
        · simp [results, Tryd.results67, go_sem, *]
        · rw [HE.out]; rfl
        · exact below_set6 HG.out.1 HG.out.2
      cases sd
      case true =>
        have HE : Hid (R = (Pol.zero, 4, (n : Int) + 1)) := Lib.hid (by rw [HF.out]; rfl)
        clear HF
        go_wp2
        (try rw [Exit.noGoto_ret])
        refine bodyPost_ret (v := .tuple #[.agg #[.int .i64 0, .int .i64 0, .int .i64 0, .int .i64 0, .int .i64 0, .int .i64 0], .int .i64 4, .int .i64 ((n : Int) + 1)]) ?_ rfl ⟨?_, ?_⟩
        · simp [results, Tryd.results67, go_sem, *]
        · rw [HE.out]; rfl
        · exact below_set6 HG.out.1 HG.out.2
      have HF2 : Hid (R = parseOn (n + 1) (p.put k z) (said.set k true) (if m' = true then pieces 10 r' else [])) := Lib.hid (by rw [HF.out]; rfl)
      clear HF z0 z1 z2 z3 z4 z5 f0 f1 f2 f3 f4 f5
      have HI5 : Hid (PInv w ((w4.setCell ⟨g6, k, none⟩ (.bool true)).setCell ⟨g5, k, none⟩ (.int .i64 ((p.put k z).at k))) g2 g5 g6 l (n + 1) r' m' (p.put k z) (said.set k true) R ∧ PHold (w4.setCell ⟨g6, k, none⟩ (.bool true)) g5 p ∧ Open6 (w4.setCell ⟨g6, k, none⟩ (.bool true)) g5) := Lib.hid (by
        have h := HI4.out
        have hp1 : PHold (w4.setCell ⟨g6, k, none⟩ (.bool true)) g5 p := by
          have := h.hp
          unfold PHold at this ⊢
          simpa only [setOther _ _ _ _ _ _ h.n56] using this
        have hz1 : PHold ((w4.setCell ⟨g6, k, none⟩ (.bool true)).setCell ⟨g5, k, none⟩ (.int .i64 ((p.put k z).at k))) g2 Pol.zero := by
          have := h.hz
          unfold PHold at this ⊢
          simpa only [setOther _ _ _ _ _ _ h.n25, setOther _ _ _ _ _ _ h.n26] using this
        have hs1 : BHold ((w4.setCell ⟨g6, k, none⟩ (.bool true)).setCell ⟨g5, k, none⟩ (.int .i64 ((p.put k z).at k))) g6 (said.set k true) := by
          have := said_hold h.hs hk6 h.slen
          intro i hi
          rw [setOther _ _ _ _ _ _ h.n56.symm]
          exact this i hi
        refine ⟨⟨HX1.out, HX2.out, HF2.out, by rw [List.length_set]; exact h.slen, put_ok h.ok HFIT.out.1 HFIT.out.2, put_hold z hp1 hk6, hs1, hz1, ?_, ?_, ?_, (h.below.setCell h.n6.1 _).setCell h.n5.1 _, ⟨h.n2.1, by simpa using h.n2.2⟩, ⟨h.n5.1, by simpa using h.n5.2⟩, ⟨h.n6.1, by simpa using h.n6.2⟩, h.n25, h.n26, h.n56⟩, hp1, ?_⟩
        · intro i hi; simpa using h.fp i hi
        · intro i hi; simpa using h.fs i hi
        · intro i hi; simpa using h.fz i hi
        · intro i hi; simpa using h.fp i hi)
      have M4 := Lib.hid (set_any g5 k z p _ hk6 HI5.out.2.1 HI5.out.2.2)
      clear HI4 HG
      go_wp2_with fail
      refine M4.out.mono ?_
      rintro e w6 ⟨rfl, rfl⟩
      go_wp2
      go_roundw
      case rel => exact ⟨n + 1, r', m', p.put k z, said.set k true, by go_num, rfl, rfl, Lib.hid HI5.out.1⟩
      case measure => exact HME.out
end Go.Proofs.YtdpoahjgdndnhaaDoor
