/-
  samplesOf, aggsOf of one segment, rolled: what each returns; nothing that was there is written.
  aggsOf of one segment, rolled: what each returns; nothing that was there is written.
  Roll of segments: what it returns; nothing that was there is written.
-/
import Derived.Test.YtepancmkopifpaaGreatDoorSRow
import Derived.Test.YtepancmkopifpaaGreatDoorTDownAny
set_option maxRecDepth 100000
namespace Go.Proofs.YtepancmkopifpaaGreatDoor
open Go.RowKit
attribute [local go_sem ↓] Go.wp_at_zero Go.wp_at_succ
set_option linter.unusedVariables false

/-- A block of six cells. -/
def Six (w : World) (g : Nat) : Prop := ∀ o, 6 ≤ o → w.cell? ⟨g, o, none⟩ = none
theorem Six.new (w : World) (a b c d e f : Value) (ty : TypeId) : Six (w.alloc (.cells #[a, b, c, d, e, f] ty)) w.heap.size := fun o ho => by
  have hh : (w.alloc (.cells #[a, b, c, d, e, f] ty)).heap[w.heap.size]? = some (.cells #[a, b, c, d, e, f] ty) := lit_block w _
  unfold World.cell?
  simp only [hh]
  have : (#[a, b, c, d, e, f] : Array Value)[o]? = none := Array.getElem?_eq_none (by simpa using ho)
  simp [this]
theorem Six.below {w w' : World} {g : Nat} (h : Six w g) (hg : g < w.heap.size) (hb : Below w.heap.size w w') : Six w' g := fun o ho => by rw [hb.cell hg]; exact h o ho
theorem cell_other {w : World} {g i b o : Nat} {x : Value} (h : b ≠ g) : (w.setCell ⟨g, i, none⟩ x).cell? ⟨b, o, none⟩ = w.cell? ⟨b, o, none⟩ := World.cell?_of_block (Below.heap_setCell _ _ _ _ h)
theorem Six.set {w : World} {g i : Nat} {x : Value} (h : Six w g) (hi : i < 6) : Six (w.setCell ⟨g, i, none⟩ x) g := fun o ho => by
  have h1 := h o ho
  have h2 : i ≠ o := by omega
  have h3 : o ≠ i := by omega
  simp [go_sem, *]
theorem RowOf.six {w : World} {g i : Nat} {x : Value} {A : Option Addr} {n cap : Nat} {l : List Ag} (h : RowOf w A n cap l) (hs : Six w g) : RowOf (w.setCell ⟨g, i, none⟩ x) A n cap l := by
  refine ⟨h.1, ⟨h.2.1.1, fun hp => ?_⟩, h.2.2⟩
  obtain ⟨b, off, e, hc⟩ := h.2.1.2 hp
  have hne : b ≠ g := fun e => by
    subst e
    have h6 := (hc 0 hp).2.2.2.2.2.2
    rw [hs _ (by omega)] at h6
    cases h6
  refine ⟨b, off, e, fun j hj => ?_⟩
  obtain ⟨h0, h1, h2, h3, h4, h5, h6⟩ := hc j hj
  exact ⟨(cell_other hne).trans h0, (cell_other hne).trans h1, (cell_other hne).trans h2, (cell_other hne).trans h3, (cell_other hne).trans h4, (cell_other hne).trans h5, (cell_other hne).trans h6⟩
theorem RowOf.six6 {w : World} {g : Nat} {a0 a1 a2 a3 a4 a5 : Value} {A : Option Addr} {n cap : Nat} {l : List Ag} (h : RowOf w A n cap l) (hs : Six w g) :
    RowOf ((((((w.setCell ⟨g, 0, none⟩ a0).setCell ⟨g, 1, none⟩ a1).setCell ⟨g, 2, none⟩ a2).setCell ⟨g, 3, none⟩ a3).setCell ⟨g, 4, none⟩ a4).setCell ⟨g, 5, none⟩ a5) A n cap l := by
  have s1 := hs.set (i := 0) (x := a0) (by omega)
  have s2 := s1.set (i := 1) (x := a1) (by omega)
  have s3 := s2.set (i := 2) (x := a2) (by omega)
  have s4 := s3.set (i := 3) (x := a3) (by omega)
  have s5 := s4.set (i := 4) (x := a4) (by omega)
  exact (((((h.six hs).six s1).six s2).six s3).six s4).six s5

/-- The samples of the first j segments. -/
def smN (l : List Sg) (j : Nat) : List (Int × Int) := (l.take j).flatMap Sg.sm
theorem smN_succ {l : List Sg} {j : Nat} (h : j < l.length) : smN l (j + 1) = smN l j ++ (sgAt l j).sm := by
  unfold smN sgAt
  rw [List.take_add_one, List.getElem?_eq_getElem h, List.flatMap_append, List.getD_eq_getElem?_getD, List.getElem?_eq_getElem h]
  simp
theorem smN_all (l : List Sg) : smN l l.length = l.flatMap Sg.sm := by unfold smN; rw [List.take_length]
theorem smN_le (l : List Sg) {i j : Nat} (h : i ≤ j) (hj : j ≤ l.length) : (smN l i).length ≤ (smN l j).length := by
  induction j with
  | zero => rw [show i = 0 by omega]; exact Nat.le_refl _
  | succ j ih =>
    rcases Nat.lt_or_ge i (j + 1) with h1 | h1
    · have h2 := ih (by omega) (by omega)
      rw [smN_succ (by omega), List.length_append]
      omega
    · rw [show i = j + 1 by omega]; exact Nat.le_refl _

set_option maxHeartbeats 600000 in
theorem samplesOf_any {g off L c N : Nat} {l : List Sg} {w : World} (h : Segs w g off l) (hL : l.length = L) (hc : L ≤ c) (hm : c ≤ 1000) (hN : (l.flatMap Sg.sm).length = N) (hn : N ≤ 1000) :
    Calls Tryz.prog 68 #[.slice (some ⟨g, off, none⟩) L c] w fun e w' => ∃ v, e = .returned v ∧ w'.ownsRow w.heap.size 48 2 v N (sampV (l.flatMap Sg.sm)) ∧ Below w.heap.size w w' := by
  have HS := Lib.hid h
  have HL := Lib.hid hL
  have HN := Lib.hid hN
  have HTOP : Hid (∀ i, i ≤ L → (smN l i).length ≤ 1000) := Lib.hid (fun i hi => by
    have := smN_le l (i := i) (j := l.length) (by omega) (Nat.le_refl _)
    rw [smN_all, hN] at this
    omega)
  clear h hL hN
  go_enter Tryz.func68, Tryz.ntmps68
  go_wp2
  go_loopw [8, 3] (fun si sv wr => ∃ (j : Nat) (v : Value), j ≤ L ∧ si = .int .i64 (j : Int) ∧ v = sv ∧ Hid (wr.ownsRow w.heap.size 48 2 sv (smN l j).length (sampV (smN l j)) ∧ Below w.heap.size w wr)) (fun si _ _ => L - (intOf si).toNat)
  case atStart => exact ⟨0, _, by omega, rfl, rfl, Lib.hid ⟨World.ownsRow_nil _ _ _ _, Below.refl _ _⟩⟩
  case round =>
    obtain ⟨j, v, hj, rfl, rfl, HI⟩ := hrel
    by_cases hlt : j < L
    · obtain ⟨A, n, ca, B, m, cb, hs⟩ := (HS.out.below HI.out.2) j (by rw [HL.out]; exact hlt)
      have HSC := Lib.hid (smN_succ (l := l) (j := j) (by rw [HL.out]; exact hlt))
      obtain ⟨sj, hsj⟩ : ∃ sj, sj = sgAt l j := ⟨_, rfl⟩
      rw [← hsj] at hs HSC
      clear hsj
      obtain ⟨i, k, f, t, sm, ag⟩ := sj
      simp only at HSC
      obtain ⟨c0, c1, c2, c3, c4, c5, hseg⟩ := hs
      simp only at c0 c1 c2 c3
      have hcap : (j : Int) < (L : Int) := by omega
      have i1 : (0 : Int) ≤ (j : Int) := by omega
      have HB9 := Lib.hid (below_box wr (.cells #[.int .i64 i, .int .i64 k, .int .i64 f, .int .i64 t, .slice A n ca, .slice B m cb] 25))
      have HROW := Lib.hid ((hseg.below HB9.out).sm)
      have HSN := Lib.hid hseg.sn
      have HO9 := Lib.hid (own_on HI.out.1 HB9.out)
      have HBB := Lib.hid (past HI.out.2 HB9.out)
      have HBIG : Hid ((smN l j).length + n ≤ 100000) := Lib.hid (by
        have h1 := HTOP.out (j + 1) (by omega)
        rw [HSC.out, List.length_append] at h1
        have := HSN.out
        simp only at this
        omega)
      have HNX : Hid (∀ v3 w3, w3.ownsRow w.heap.size 48 2 v3 ((smN l j).length + n) (sampV (smN l j ++ sm)) → (wr.alloc (.cells #[.int .i64 i, .int .i64 k, .int .i64 f, .int .i64 t, .slice A n ca, .slice B m cb] 25)).grownBy w3 v.ownBlock → (w3.ownsRow w.heap.size 48 2 v3 (smN l (j + 1)).length (sampV (smN l (j + 1))) ∧ Below w.heap.size w w3)) := Lib.hid (fun v3 w3 h1 h2 => by
        refine ⟨?_, HBB.out.grown h2 HBB.out.size (fun k h => (HO9.out.lt k h).1)⟩
        have := HSN.out
        simp only at this
        rw [HSC.out, List.length_append, this]
        exact h1)
      clear hseg
      go_wp2_with (at_builtin; refine wpList_append_samps rfl _ _ rfl w.heap.size _ _ n (smN l j) sm rfl HO9.out A ca rfl HSN.out HROW.out HBIG.out HBB.out.size ?_)
      intro v3 w3 hown hgrow
      have H3 := Lib.hid (HNX.out v3 w3 hown hgrow)
      clear hown hgrow HNX HROW HBIG HI c0 c1 c2 c3 c4 c5 HO9 HBB HB9
      go_wp2
      go_roundw
      case rel => exact ⟨j + 1, _, by omega, by go_num, rfl, H3⟩
      case measure => simp [intOf]; omega
    · obtain rfl : j = L := by omega
      have HF : Hid (wr.ownsRow w.heap.size 48 2 v N (sampV (l.flatMap Sg.sm)) ∧ Below w.heap.size w wr) := Lib.hid (by
        have h1 := HI.out
        have e : smN l j = l.flatMap Sg.sm := by rw [← HL.out, smN_all]
        rw [e, HN.out] at h1
        exact h1)
      clear HI
      go_wp2
      go_ret
      exact ⟨_, rfl, HF.out⟩
end Go.Proofs.YtepancmkopifpaaGreatDoor
set_option maxRecDepth 100000
namespace Go.Proofs.YtepancmkopifpaaGreatDoor
open Go.RowKit
attribute [local go_sem ↓] Go.wp_at_zero Go.wp_at_succ
set_option linter.unusedVariables false

theorem aggV_ones : ∀ (l : List Ag), ∀ u ∈ aggV l, u.oneCell' = true
  | [], u, hu => by simp [aggV] at hu
  | a :: r, u, hu => by
    rw [aggV_cons, List.mem_append] at hu
    rcases hu with hu | hu
    · unfold Ag.cells at hu
      simp only [List.mem_cons, List.not_mem_nil, or_false] at hu
      rcases hu with rfl | rfl | rfl | rfl | rfl | rfl | rfl <;> rfl
    · exact aggV_ones r u hu
theorem aggs_news {w : World} {b off : Nat} {l : List Ag} (h : ∀ j, j < l.length → HoldsAt w b (off + j * 7) (agAt l j)) : ∀ q u, (aggV l)[q]? = some u → w.cell? ((⟨b, off, none⟩ : Addr).add q) = some u := by
  intro q u hq
  have hlt : q < l.length * 7 := by
    rcases Nat.lt_or_ge q (l.length * 7) with e | e
    · exact e
    · rw [List.getElem?_eq_none (by rw [aggV_length]; exact e)] at hq; cases hq
  have e : q = q / 7 * 7 + q % 7 := by omega
  have hj : q / 7 < l.length := by omega
  have hi : q % 7 < 7 := by omega
  rw [e, aggV_get l _ _ hj hi] at hq
  rw [addr_add, e]
  obtain ⟨c0, c1, c2, c3, c4, c5, c6⟩ := h _ hj
  generalize q / 7 = j at *
  generalize q % 7 = i at *
  rw [← Nat.add_assoc]
  unfold Ag.cells at hq
  match i, hi with
  | 0, _ => exact c0.trans hq
  | 1, _ => exact c1.trans hq
  | 2, _ => exact c2.trans hq
  | 3, _ => exact c3.trans hq
  | 4, _ => exact c4.trans hq
  | 5, _ => exact c5.trans hq
  | 6, _ => exact c6.trans hq
/-- append(v, x...) of rows of windows. -/
theorem wpList_append_aggs {w : World} {ops : Array Oper} {rest : List Oper} {o : Oper} {a : Act} {Q : Exit → Act → World → Prop} (hgd : o.guard = none) (s x : Operand)
    (ho : o.op = .call { callee := .builtin .append, args := #[s, x], argTypes := #[23, 23] }) (base : Nat) (v : Value) (n m : Nat) (l l2 : List Ag) (hs : a.eval s = v) (hown : w.ownsRow base 50 7 v n (aggV l))
    (B : Option Addr) (c : Nat) (hx : a.eval x = .slice B m c) (hr : RowOf w B m c l2) (hlen : n + m ≤ 100000) (hbase : base ≤ w.heap.size)
    (h : ∀ v' w', w'.ownsRow base 50 7 v' (n + m) (aggV (l ++ l2)) → w.grownBy w' v.ownBlock → wpList Tryz.prog ops Q rest (a.put o.dst v') w') : wpList Tryz.prog ops Q (o :: rest) a w := by
  obtain ⟨i0', hi, hz0, hz1, hz2⟩ := info_parts Tryz.info50
  have hm := hr.1
  cases B with
  | none =>
    have hc := hr.2.2.2.2 rfl
    subst hc
    obtain rfl : m = 0 := by have := hr.2.2.1; omega
    obtain rfl : l2 = [] := List.length_eq_zero_iff.1 hm
    refine wpList_append_own_none hgd s x 23 ho base 50 i0' 7 Tryz.underlying23 hi v n (aggV l) hs hown hx ?_
    refine h v w ?_ ⟨rfl, rfl, rfl, Nat.le_refl _, fun _ _ _ => rfl⟩
    rw [List.append_nil]
    exact hown
  | some ad =>
    refine wpList_append_own w hgd s x 23 ho base 50 i0' (.agg #[.int .i64 0, .int .i64 0, .int .i64 0, .int .i64 0, .int .i64 0, .int .i64 0, .int .i64 0]) 7 56 Tryz.underlying23 hi hz0 hz1 hz2 rfl (by decide) v n (aggV l) hs hown ad m c (aggV l2) hx (by rw [aggV_length, hm]) ?_ (aggV_ones _) (by unfold maxLen; omega) (by omega) hbase ?_
    · intro j u hj
      have hl : 0 < l2.length := by
        rcases Nat.eq_zero_or_pos l2.length with e | e
        · rw [List.length_eq_zero_iff.1 e] at hj; simp [aggV] at hj
        · exact e
      obtain ⟨b, off, e, hcc⟩ := hr.2.1.2 hl
      injection e with e
      subst e
      exact aggs_news hcc j u hj
    · intro v' w' h1 h2 _
      exact h v' w' (by rw [aggV_append]; exact h1) h2


set_option maxHeartbeats 600000 in
theorem aggsOf_one {g off c : Nat} {s : Sg} {k : Int} {w : World} (h : Segs w g off [s]) (hc : 1 ≤ c) (hm : c ≤ 1000) (hn : s.ag.length ≤ 1000) :
    Calls Tryz.prog 69 #[.slice (some ⟨g, off, none⟩) 1 c, .int .i64 k] w fun e w' => ∃ v, e = .returned (.tuple #[v, .int .i64 0]) ∧ w'.ownsRow w.heap.size 50 7 v s.ag.length (aggV s.ag) ∧ Below w.heap.size w w' := by
  obtain ⟨A, n, ca, B, m, cb, hs⟩ := h 0 (by simp)
  have e0 : sgAt [s] 0 = s := rfl
  rw [e0] at hs
  obtain ⟨i, k', f, t, sm, ag⟩ := s
  obtain ⟨c0, c1, c2, c3, c4, c5, hseg⟩ := hs
  simp only [Nat.zero_mul, Nat.add_zero] at c0 c1 c2 c3 c4 c5 hn ⊢
  have HB9 := Lib.hid (below_box w (.cells #[.int .i64 i, .int .i64 k', .int .i64 f, .int .i64 t, .slice A n ca, .slice B m cb] 25))
  have HROW := Lib.hid ((hseg.below HB9.out).ag)
  have HM := Lib.hid hseg.ag.1
  have hcap : (0 : Int) < 1 := by omega
  have HBIG : Hid (0 + m ≤ 100000) := Lib.hid (by have := hseg.ag.1; simp only at this; omega)
  have HM' : Hid (ag.length = m) := Lib.hid hseg.ag.1
  clear h e0 hseg hn
  go_enter Tryz.func69, Tryz.ntmps69
  go_wp2
  go_step3
  go_wp2
  go_step3
  go_wp2
  refine wp_loop_rounds 3 ?_
  rw [rounds_succ]
  go_upto_region 6 with fail
  go_quiet (fail)
  obtain ⟨wd, hwd⟩ : ∃ wd, wd = (w.alloc (.cells #[.int .i64 i, .int .i64 k', .int .i64 f, .int .i64 t, .slice A n ca, .slice B m cb] 25)).drewN nq := ⟨_, rfl⟩
  have hBd : Below w.heap.size w wd := by rw [hwd]; exact past HB9.out (belowN _ _)
  have HROW2 : Hid (RowOf wd B m cb ag) := Lib.hid (by rw [hwd]; exact HROW.out.below (belowN _ _))
  have d5 : wd.cell? ⟨w.heap.size, 5, none⟩ = some (.slice B m cb) := by rw [hwd]; exact (SgV.new w i k' f t (.slice A n ca) (.slice B m cb) 25).c5
  have HBD := Lib.hid hBd
  rw [← hwd]
  clear hwd hBd HROW HB9 c0 c1 c2 c3 c4 c5
  go_wp2_with (at_builtin; refine wpList_append_aggs rfl _ _ rfl w.heap.size _ 0 m [] ag rfl (World.ownsRow_nil _ _ _ _) B cb rfl HROW2.out HBIG.out HBD.out.size ?_)
  intro v3 w3 hown hgrow
  have HB3 : Hid (Below w.heap.size w w3) := Lib.hid (HBD.out.grown hgrow HBD.out.size (fun k h => by cases h))
  have HO3 : Hid (w3.ownsRow w.heap.size 50 7 v3 ag.length (aggV ag)) := Lib.hid (by
    have e := HM'.out
    rw [e]
    exact hown)
  clear hown hgrow HROW2 HBIG HBD d5
  go_wp2
  rw [rounds_succ]
  go_wp2
  (try rw [Exit.noGoto_ret])
  go_ret2
  exact ⟨_, rfl, HO3.out, HB3.out⟩

/-! rolled, of tier 1; of one segment. -/
set_option maxHeartbeats 600000 in
theorem rolled_raw {g off L c : Nat} {l : List Sg} {w : World} (h : Segs w g off l) (hL : l.length = L) (hc : L ≤ c) (hm : c ≤ 1000) (hn : (l.flatMap Sg.sm).length ≤ 1000) (hin : In2 (l.flatMap Sg.sm)) (hw : Wid w) :
    Calls Tryz.prog 37 #[.slice (some ⟨g, off, none⟩) L c, .int .i64 1] w (Gives w (rollAll l 1)) := by
  obtain ⟨N, hN⟩ : ∃ N, (l.flatMap Sg.sm).length = N := ⟨_, rfl⟩
  rw [hN] at hn
  have m1 := samplesOf_any h hL hc hm hN hn
  have e : rollAll l 1 = raw (l.flatMap Sg.sm) 1 := by unfold rollAll; rw [if_pos rfl]
  rw [e]
  have m2 : ∀ u v, u.ownsRow w.heap.size 48 2 v N (sampV (l.flatMap Sg.sm)) → Below w.heap.size w u → Calls Tryz.prog 67 #[v, .int .i64 1] u (Gives u (raw (l.flatMap Sg.sm) 1)) := fun u v ho hb => by
    obtain ⟨A, cap, rfl, hr, hl, _⟩ := row_of_own ho hin
    exact raw_any 1 hl hr.samps (by rw [← hl]; exact hr.le) hr.max (by unfold In64; omega) (hw.below hb) hn
  have M1 := Lib.hid m1
  have M2 := Lib.hid m2
  have HG : Hid (∀ u w' e, Below w.heap.size w u → Gives u (raw (l.flatMap Sg.sm) 1) e w' → Gives w (raw (l.flatMap Sg.sm) 1) e w') := Lib.hid (fun u w' e hb ⟨A, cap, h1, h2, h3⟩ => ⟨A, cap, h1, past hb h2, h3⟩)
  generalize raw (l.flatMap Sg.sm) 1 = R at *
  clear m1 m2 h hL hN hin hw e
  go_enter Tryz.func37, Tryz.ntmps37
  go_wp2_with fail
  refine M1.out.mono ?_
  rintro e w2 ⟨v, rfl, hown, hb⟩
  have M3 := Lib.hid (M2.out _ _ hown hb)
  have HB := Lib.hid hb
  clear hown hb
  go_wp2_with fail
  refine M3.out.mono ?_
  rintro e w3 hg
  have hg2 := HG.out _ _ _ HB.out hg
  obtain ⟨A, cap, rfl, hb3, hr3⟩ := hg2
  have HF : Hid (Gives w R (.returned (.tuple #[.slice A R.1.length cap, .int .i64 R.2])) w3) := Lib.hid ⟨A, cap, rfl, hb3, hr3⟩
  clear hg hb3 hr3
  go_wp2
  (try simp only [Exit.inBlock, Exit.then])
  go_ret2
  exact HF.out

set_option maxHeartbeats 600000 in
theorem rolled_one {g off c : Nat} {s : Sg} {k : Int} {w : World} (h : Segs w g off [s]) (hc : 1 ≤ c) (hm : c ≤ 1000) (hs : s.may) (ht : s.tier = k - 1) (hk : coarse k) (hk1 : k ≠ 1) (hw : Wid w) :
    Calls Tryz.prog 37 #[.slice (some ⟨g, off, none⟩) 1 c, .int .i64 k] w (Gives w (rollAll [s] k)) := by
  have hok : s.ok := by
    obtain ⟨A, n, ca, B, m, cb, hc'⟩ := h 0 (by simp)
    exact hc'.at_.ok
  have hh := has_more hs.2.2.2 hok (by unfold coarse at hk; omega)
  have hlen : s.ag.length ≤ 64 := hh.2.1.1.2
  have m1 := aggsOf_one (k := k) h hc hm (by omega)
  have hal : Align s.ag (k - 1) := by have := hh.2.1.1.1; rw [ht] at this; exact this
  have e : rollAll [s] k = down s.ag k := by
    unfold rollAll
    rw [if_neg hk1]
    have e2 : [s].flatMap Sg.ag = s.ag := by simp
    rw [e2, meet_align hal]
    rw [if_pos rfl]
  rw [e]
  have hin : ∀ a ∈ s.ag, a.ok := hok.2.2.2.2.2
  have hk64 : In64 k := by unfold coarse at hk; unfold In64; omega
  have m2 : ∀ u v, u.ownsRow w.heap.size 50 7 v s.ag.length (aggV s.ag) → Below w.heap.size w u → Calls Tryz.prog 70 #[v, .int .i64 k] u (Gives u (down s.ag k)) := fun u v ho hb => by
    obtain ⟨A, cap, rfl, hr⟩ := rowOf_own ho hin
    exact down_any k hr hk64 (hw.below hb) (by omega)
  have M1 := Lib.hid m1
  have M2 := Lib.hid m2
  have HG : Hid (∀ u w' e, Below w.heap.size w u → Gives u (down s.ag k) e w' → Gives w (down s.ag k) e w') := Lib.hid (fun u w' e hb ⟨A, cap, h1, h2, h3⟩ => ⟨A, cap, h1, past hb h2, h3⟩)
  generalize down s.ag k = R at *
  have hk1' : (k == 1) = false := by simp [hk1]
  clear m1 m2 h hh hlen hal e hin hk64 hw hk1 hk ht hs hok
  go_enter Tryz.func37, Tryz.ntmps37
  go_wp2_with fail
  refine M1.out.mono ?_
  rintro e w2 ⟨v, rfl, hown, hb⟩
  have M3 := Lib.hid (M2.out _ _ hown hb)
  have HB := Lib.hid hb
  clear hown hb
  go_wp2_with fail
  refine M3.out.mono ?_
  rintro e w3 hg
  have hg2 := HG.out _ _ _ HB.out hg
  obtain ⟨A, cap, rfl, hb3, hr3⟩ := hg2
  have HF : Hid (Gives w R (.returned (.tuple #[.slice A R.1.length cap, .int .i64 R.2])) w3) := Lib.hid ⟨A, cap, rfl, hb3, hr3⟩
  clear hg hb3 hr3
  go_wp2
  (try simp only [Exit.inBlock, Exit.then])
  go_ret2
  exact HF.out
end Go.Proofs.YtepancmkopifpaaGreatDoor
set_option maxRecDepth 100000
namespace Go.Proofs.YtepancmkopifpaaGreatDoor
open Go.RowKit
attribute [local go_sem ↓] Go.wp_at_zero Go.wp_at_succ
set_option linter.unusedVariables false

/-- What Roll returns. -/
def RollG (w : World) (R : Sg × Int) (e : Ending) (w' : World) : Prop :=
  ∃ B m cb, e = .returned (.tuple #[.agg #[.int .i64 R.1.id, .int .i64 R.1.tier, .int .i64 R.1.fr, .int .i64 R.1.tz, .slice none 0 0, .slice B m cb], .int .i64 R.2]) ∧ RowOf w' B m cb R.1.ag ∧ Below w.heap.size w w'
abbrev Z6b : Obj := .cells #[.int .i64 0, .int .i64 0, .int .i64 0, .int .i64 0, .slice none 0 0, .slice none 0 0] 25

set_option maxHeartbeats 600000 in
theorem rollG_any {g off L c : Nat} {l : List Sg} {id k : Int} {w : World} (h : Segs w g off l) (hL : l.length = L) (h1 : 0 < L) (hc : L ≤ c) (hm : c ≤ 1000) (hid : In64 id) (hk : In64 k) (hw : Wid w)
    (hr : (1 ≤ id ∧ id ≤ 1073741824) → coarse k → chain k l → ∀ u, Below w.heap.size w u → Calls Tryz.prog 37 #[.slice (some ⟨g, off, none⟩) L c, .int .i64 k] u (Gives u (rollAll l k))) :
    Calls Tryz.prog 12 #[.slice (some ⟨g, off, none⟩) L c, .int .i64 id, .int .i64 k] w (RollG w (rollS l id k)) := by
  have HF : Hid (∀ (cd : Int) w', rollS l id k = (Sg.zero, cd) → Below w.heap.size w w' → RollG w (rollS l id k) (.returned (.tuple #[.agg #[.int .i64 0, .int .i64 0, .int .i64 0, .int .i64 0, .slice none 0 0, .slice none 0 0], .int .i64 cd])) w') := Lib.hid (fun cd w' e hb => by rw [e]; exact ⟨none, 0, 0, rfl, rowOf_nil _, hb⟩)
  have HV0 := Lib.hid (SgV.new w 0 0 0 0 (.slice none 0 0) (.slice none 0 0) 25)
  have m0 := fun u => mayId_any id u hid
  have HS := Lib.hid h
  have HL := Lib.hid hL
  have HW := Lib.hid hw
  clear h hL hw
  by_cases c1 : 1 ≤ id ∧ id ≤ 1073741824
  case neg =>
    rw [decide_eq_false c1] at m0
    have M0 := Lib.hid m0
    have HN : Hid (rollS l id k = (Sg.zero, 1)) := Lib.hid (by unfold rollS; rw [if_neg (fun h => c1 h.1)])
    clear m0 c1 hr
    go_enter Tryz.func12, Tryz.ntmps12
    go_wp2_with fail
    refine (M0.out _).mono ?_
    rintro e w2 ⟨rfl, rfl⟩
    obtain ⟨d0, d1, d2, d3, d4, d5, y0, y1, y2, y3, y4, y5⟩ := HV0.out
    go_wp2
    (try simp only [Exit.inBlock, Exit.then])
    refine bodyPost_ret (v := .tuple #[.agg #[.int .i64 0, .int .i64 0, .int .i64 0, .int .i64 0, .slice none 0 0, .slice none 0 0], .int .i64 1]) ?_ rfl (HF.out _ _ HN.out ?_)
    · rw [results_cell_tmp rfl]
      go_simp
    · first | with_reducible exact below_box _ _ | with_reducible exact below_set6 (below_box _ _) (Nat.le_refl _)
  rw [decide_eq_true c1] at m0
  have M0 := Lib.hid m0
  clear m0
  by_cases c2 : k < 1
  case pos =>
    have HN : Hid (rollS l id k = (Sg.zero, 1)) := Lib.hid (by unfold rollS; rw [if_neg (fun h => by have := h.2.1; unfold coarse at this; omega)])
    clear c1 hr
    go_enter Tryz.func12, Tryz.ntmps12
    go_wp2_with fail
    refine (M0.out _).mono ?_
    rintro e w2 ⟨rfl, rfl⟩
    obtain ⟨d0, d1, d2, d3, d4, d5, y0, y1, y2, y3, y4, y5⟩ := HV0.out
    go_wp2
    (try simp only [Exit.inBlock, Exit.then])
    refine bodyPost_ret (v := .tuple #[.agg #[.int .i64 0, .int .i64 0, .int .i64 0, .int .i64 0, .slice none 0 0, .slice none 0 0], .int .i64 1]) ?_ rfl (HF.out _ _ HN.out ?_)
    · rw [results_cell_tmp rfl]
      go_simp
    · first | with_reducible exact below_box _ _ | with_reducible exact below_set6 (below_box _ _) (Nat.le_refl _)
  by_cases c3 : k ≥ 4
  case pos =>
    have HN : Hid (rollS l id k = (Sg.zero, 1)) := Lib.hid (by unfold rollS; rw [if_neg (fun h => by have := h.2.1; unfold coarse at this; omega)])
    clear c1 hr
    go_enter Tryz.func12, Tryz.ntmps12
    go_wp2_with fail
    refine (M0.out _).mono ?_
    rintro e w2 ⟨rfl, rfl⟩
    obtain ⟨d0, d1, d2, d3, d4, d5, y0, y1, y2, y3, y4, y5⟩ := HV0.out
    go_wp2
    (try simp only [Exit.inBlock, Exit.then])
    refine bodyPost_ret (v := .tuple #[.agg #[.int .i64 0, .int .i64 0, .int .i64 0, .int .i64 0, .slice none 0 0, .slice none 0 0], .int .i64 1]) ?_ rfl (HF.out _ _ HN.out ?_)
    · rw [results_cell_tmp rfl]
      go_simp
    · first | with_reducible exact below_box _ _ | with_reducible exact below_set6 (below_box _ _) (Nat.le_refl _)
  have hco : coarse k := by unfold coarse; omega
  have hsub : IntKind.i64.wrap (k - 1) = k - 1 := by rw [IntKind.wrap_i64]; unfold In64 at hk; omega
  have m2 := fun u (hu : Below w.heap.size w u) => isRow_any (q := k - 1) (HS.out.below hu) HL.out hc hm (HW.out.below hu) (by unfold In64; omega)
  have ek : k - 1 + 1 = k := by omega
  rw [ek] at m2
  by_cases c4 : chain k l
  case neg =>
    rw [decide_eq_false c4] at m2
    have M2 := Lib.hid m2
    have HN : Hid (rollS l id k = (Sg.zero, 1)) := Lib.hid (by unfold rollS; rw [if_neg (fun h => c4 h.2.2)])
    clear c1 hr m2 c4 ek hco
    go_enter Tryz.func12, Tryz.ntmps12
    go_wp2_with fail
    refine (M0.out _).mono ?_
    rintro e w2 ⟨rfl, rfl⟩
    go_wp2_with fail
    refine (M2.out _ (below_box _ _)).mono ?_
    rintro e w2 ⟨rfl, hb2⟩
    obtain ⟨d0, d1, d2, d3, d4, d5, y0, y1, y2, y3, y4, y5⟩ := HV0.out.below hb2
    have HB2 := Lib.hid (past (below_box _ _) hb2)
    clear hb2
    go_wp2
    (try simp only [Exit.inBlock, Exit.then])
    refine bodyPost_ret (v := .tuple #[.agg #[.int .i64 0, .int .i64 0, .int .i64 0, .int .i64 0, .slice none 0 0, .slice none 0 0], .int .i64 1]) ?_ rfl (HF.out _ _ HN.out ?_)
    · rw [results_cell_tmp rfl]
      go_simp
    · with_reducible exact below_set6 HB2.out (Nat.le_refl _)
  rw [decide_eq_true c4] at m2
  have M2 := Lib.hid m2
  have M3 := Lib.hid (hr c1 hco c4)
  obtain ⟨fr0, hfr0⟩ : ∃ x, x = (sgAt l 0).fr := ⟨_, rfl⟩
  obtain ⟨tz0, htz0⟩ : ∃ x, x = (sgAt l (L - 1)).tz := ⟨_, rfl⟩
  have HR : Hid (rollS l id k = rollEnd id k fr0 tz0 (rollAll l k)) := Lib.hid (by
    unfold rollS
    rw [if_pos ⟨c1, hco, c4⟩, hfr0, htz0]
    congr 1
    · cases l with
      | nil => exact absurd c4 (fun h => h)
      | cons a r => rfl
    · rw [← HL.out]
      unfold sgAt
      rw [List.getD_eq_getElem?_getD, List.getLastD_eq_getLast?, List.getLast?_eq_getElem?])
  have HI : Hid (∀ u, Below w.heap.size w u → u.cell? ⟨g, off + 0 * 6 + 2, none⟩ = some (.int .i64 fr0) ∧ u.cell? ⟨g, off + (L - 1) * 6 + 3, none⟩ = some (.int .i64 tz0)) := Lib.hid (fun u hu => by
    obtain ⟨A, n, ca, B, m, cb, h0⟩ := (HS.out.below hu) 0 (by rw [HL.out]; exact h1)
    obtain ⟨A', n', ca', B', m', cb', h9⟩ := (HS.out.below hu) (L - 1) (by rw [HL.out]; omega)
    rw [hfr0, htz0]
    exact ⟨h0.c2, h9.c3⟩)
  generalize rollAll l k = RA at *
  clear hfr0 htz0 c1 hr m2 c4 ek hco HS HW
  go_enter Tryz.func12, Tryz.ntmps12
  go_wp2_with fail
  refine (M0.out _).mono ?_
  rintro e w2 ⟨rfl, rfl⟩
  go_wp2_with fail
  refine (M2.out _ (below_box _ _)).mono ?_
  rintro e w2 ⟨rfl, hb2⟩
  have HV2 := Lib.hid (HV0.out.below hb2)
  have HB2 := Lib.hid (past (below_box _ _) hb2)
  have HX2 : Hid (Six w2 w.heap.size) := Lib.hid ((Six.new w _ _ _ _ _ _ 25).below (by simp) hb2)
  clear hb2
  go_wp2_with fail
  refine (M3.out _ HB2.out).mono ?_
  rintro e w3 ⟨A, cap, rfl, hb3, hr3⟩
  have HV3 := Lib.hid (HV2.out.below hb3)
  have HB3 := Lib.hid (past HB2.out hb3)
  have HX3 := Lib.hid (HX2.out.below HV2.out.lt hb3)
  have HR3 := Lib.hid hr3
  obtain ⟨la, cd⟩ := RA
  simp only at *
  have hlen := Nat.le_trans hr3.2.2.1 hr3.2.2.2.1
  unfold maxLen at hlen
  clear hb3 hr3
  obtain ⟨d0, d1, d2, d3, d4, d5, y0, y1, y2, y3, y4, y5⟩ := HV3.out
  by_cases c5 : cd = 0
  case neg =>
    have c5' : (cd != 0) = true := by simp [c5]
    have HN : Hid (rollS l id k = (Sg.zero, cd)) := Lib.hid (by rw [HR.out]; unfold rollEnd; rw [if_pos c5])
    clear c5 HR
    go_wp2
    (try simp only [Exit.inBlock, Exit.then])
    refine bodyPost_ret (v := .tuple #[.agg #[.int .i64 0, .int .i64 0, .int .i64 0, .int .i64 0, .slice none 0 0, .slice none 0 0], .int .i64 cd]) ?_ rfl (HF.out _ _ HN.out ?_)
    · rw [results_cell_tmp rfl]
      go_simp
    · with_reducible exact below_set6 HB3.out (Nat.le_refl _)
  have c5' : (cd != 0) = false := by simp [c5]
  by_cases c6 : (la.length : Int) > 64
  case pos =>
    have HN : Hid (rollS l id k = (Sg.zero, 8)) := Lib.hid (by rw [HR.out]; unfold rollEnd; rw [if_neg (fun h => h c5), if_pos (by show 64 < la.length; omega)])
    clear c5 HR
    go_wp2
    (try simp only [Exit.inBlock, Exit.then])
    refine bodyPost_ret (v := .tuple #[.agg #[.int .i64 0, .int .i64 0, .int .i64 0, .int .i64 0, .slice none 0 0, .slice none 0 0], .int .i64 8]) ?_ rfl (HF.out _ _ HN.out ?_)
    · rw [results_cell_tmp rfl]
      go_simp
    · with_reducible exact below_set6 HB3.out (Nat.le_refl _)
  have HN : Hid (rollS l id k = (⟨id, k, fr0, tz0, [], la⟩, 0)) := Lib.hid (by rw [HR.out]; unfold rollEnd; rw [if_neg (fun h => h c5), if_neg (by show ¬ 64 < la.length; omega)])
  obtain ⟨q0, q1⟩ := HI.out _ HB3.out
  rw [Nat.zero_mul, Nat.add_zero] at q0
  have i1 : (1 : Int) ≤ (L : Int) := by omega
  have i2 : (0 : Int) < (L : Int) := by omega
  have i3 : (0 : Int) ≤ (L : Int) - 1 := by omega
  have i4 : (L : Int) - 1 < (L : Int) := by omega
  have i5 : ((L : Int) - 1).toNat = L - 1 := by omega
  have i6 : IntKind.i64.wrap ((L : Int) - 1) = (L : Int) - 1 := by rw [IntKind.wrap_i64]; omega
  clear c5 HR HI
  go_upto_region 8 with fail
  go_region
  all_goals
    go_wp2
    (try simp only [Exit.inBlock, Exit.then])
    refine bodyPost_ret (v := .tuple #[.agg #[.int .i64 id, .int .i64 k, .int .i64 fr0, .int .i64 tz0, .slice none 0 0, .slice A la.length cap], .int .i64 0]) ?_ rfl ?_
    · rw [results_cell_tmp rfl]
      go_simp
    · rw [HN.out]
      refine ⟨A, la.length, cap, rfl, ?_, ?_⟩
      · exact (HR3.out.six6 HX3.out).below (belowN _ 1)
      · exact past (below_set6 HB3.out (Nat.le_refl _)) (belowN _ 1)

/-! Roll of nothing. -/
set_option maxHeartbeats 600000 in
theorem rollG_nil {id k : Int} {w : World} (hid : 1 ≤ id ∧ id ≤ 1073741824) (hk : coarse k) :
    Calls Tryz.prog 12 #[.slice none 0 0, .int .i64 id, .int .i64 k] w (RollG w (Sg.zero, 1)) := by
  have HF : Hid (∀ w', Below w.heap.size w w' → RollG w (Sg.zero, 1) (.returned (.tuple #[.agg #[.int .i64 0, .int .i64 0, .int .i64 0, .int .i64 0, .slice none 0 0, .slice none 0 0], .int .i64 1])) w') := Lib.hid (fun w' hb => ⟨none, 0, 0, rfl, rowOf_nil _, hb⟩)
  have m0 := fun u => mayId_any id u (by unfold In64; omega)
  rw [decide_eq_true hid] at m0
  have M0 := Lib.hid m0
  have HV0 := Lib.hid (SgV.new w 0 0 0 0 (.slice none 0 0) (.slice none 0 0) 25)
  have M1 : Hid (∀ q u, Calls Tryz.prog 36 #[.slice none 0 0, .int .i64 q] u fun e w' => e = .returned (.bool false) ∧ u = w') := Lib.hid (fun q u => by
    go_enter Tryz.func36, Tryz.ntmps36
    go_wp2
    go_step3
    go_wp2
    go_step3
    go_wp2
    refine wp_loop_rounds 1 ?_
    rw [rounds_succ]
    go_wp2
    (try rw [Exit.noGoto_ret])
    go_ret
    exact ⟨rfl, rfl⟩)
  have c2 : ¬ k < 1 := by unfold coarse at hk; omega
  have c3 : ¬ k ≥ 4 := by unfold coarse at hk; omega
  have hsub : IntKind.i64.wrap (k - 1) = k - 1 := by rw [IntKind.wrap_i64]; omega
  clear m0 hid hk
  go_enter Tryz.func12, Tryz.ntmps12
  go_wp2_with fail
  refine (M0.out _).mono ?_
  rintro e w2 ⟨rfl, rfl⟩
  go_wp2_with fail
  refine (M1.out _ _).mono ?_
  rintro e w2 ⟨rfl, rfl⟩
  obtain ⟨d0, d1, d2, d3, d4, d5, y0, y1, y2, y3, y4, y5⟩ := HV0.out
  go_wp2
  (try simp only [Exit.inBlock, Exit.then])
  refine bodyPost_ret (v := .tuple #[.agg #[.int .i64 0, .int .i64 0, .int .i64 0, .int .i64 0, .slice none 0 0, .slice none 0 0], .int .i64 1]) ?_ rfl (HF.out _ ?_)
  · rw [results_cell_tmp rfl]
    go_simp
  · first | with_reducible exact below_box _ _ | with_reducible exact below_set6 (below_box _ _) (Nat.le_refl _)
end Go.Proofs.YtepancmkopifpaaGreatDoor
