/-
  Fold: what entries come to; nothing that was there is written.
-/
import Derived.Test.YtdpoahjgdndnhaaDoorETakeW
import Derived.Test.YtdpoahjgdndnhaaDoorERowS
import Derived.Deep.DrawnRows
set_option maxRecDepth 100000
namespace Go.Proofs.YtdpoahjgdndnhaaDoor
open Go.RowKit Go.Maps
attribute [local go_sem ↓] Go.wp_at_zero Go.wp_at_succ
set_option linter.unusedVariables false

/-- Between two rounds of Fold. -/
structure FI (w wr : World) (g bT bG : Nat) (l : List Ent) (i : Nat) (m : Man) : Prop where
  at_ : MAt wr g bT bG m i
  good : m.Good i
  says : foldOn Man.zero l = foldOn m (l.drop i)
  below : Below w.heap.size w wr
  z : PHold wr w.heap.size Pol.zero
  fz : Open6 wr w.heap.size
  lt : w.heap.size < wr.heap.size
  n1 : w.heap.size < g
  n2 : w.heap.size < bT
  n3 : w.heap.size < bG
theorem FI.on {w wr wr' : World} {g bT bG : Nat} {l : List Ent} {i : Nat} {m : Man} (h : FI w wr g bT bG l i m) (hb : Below wr.heap.size wr wr') : FI w wr' g bT bG l i m :=
  ⟨h.at_.below hb, h.good, h.says, past h.below hb, h.z.below h.lt hb, h.fz.below h.lt hb, Nat.lt_of_lt_of_le h.lt hb.size, h.n1, h.n2, h.n3⟩

theorem PHold.belowB {w w' : World} {g B : Nat} {p : Pol} (h : PHold w g p) (hg : g < B) (hb : Below B w w') : PHold w' g p := by
  obtain ⟨h0, h1, h2, h3, h4, h5⟩ := h
  exact ⟨by rw [hb.cell hg]; exact h0, by rw [hb.cell hg]; exact h1, by rw [hb.cell hg]; exact h2, by rw [hb.cell hg]; exact h3, by rw [hb.cell hg]; exact h4, by rw [hb.cell hg]; exact h5⟩
theorem FI.next {w wr wr' : World} {g bT bG : Nat} {l : List Ent} {i : Nat} {m : Man} {e : Ent} (h : FI w wr g bT bG l i m) (he : e.ok) (hf : m.fault e = 0) (hm : MAt wr' g bT bG (m.take e) (i + 1))
    (hb : ∀ B, B ≤ wr.heap.size → B ≤ g → B ≤ bT → B ≤ bG → Below B wr wr') (hs : foldOn Man.zero l = foldOn (m.take e) (l.drop (i + 1))) : FI w wr' g bT bG l (i + 1) (m.take e) := by
  have hx := hb (w.heap.size + 1) (by have := h.lt; omega) (by have := h.n1; omega) (by have := h.n2; omega) (by have := h.n3; omega)
  have hsz : wr.heap.size ≤ wr'.heap.size := hx.size
  refine ⟨hm, h.good.take he hf, hs, h.below.trans (hx.mono (by omega)), h.z.belowB (by omega) hx, fun i hi => ?_, by have := h.lt; omega, h.n1, h.n2, h.n3⟩
  rw [hx.frozen (p := ⟨w.heap.size, i, none⟩) (by simp)]
  exact h.fz i hi

set_option maxHeartbeats 4000000 in
theorem fold_in {A : Option Addr} {n cap : Nat} {l : List Ent} {w : World} (h : EntRow w A n cap l) (hn : n * 40 ≤ 140737488355328) (hw : Nam w) (h0 : 0 < w.heap.size) :
    Calls Tryd.prog 18 #[.slice A n cap] w fun e w' => ∃ (A' : Option Addr) (cap' : Nat), e = .returned (.tuple #[.slice A' (fold l).1.length cap', (fold l).2.1.val, .int .i64 (fold l).2.2.1, .int .i64 (fold l).2.2.2]) ∧ InfRow w' A' (fold l).1.length cap' (fold l).1 ∧ Below w.heap.size w w' := by
  have M0 := Lib.hid (fun w => default_any w)
  unfold Pol.dflt Pol.val at M0
  have hmm := @run_makeMap Tryd.prog
  have H := Lib.hid h
  have HW := Lib.hid hw
  have H0 := Lib.hid h0
  have HN := Lib.hid hn
  obtain ⟨R, hR⟩ : ∃ R, R = fold l := ⟨_, rfl⟩
  rw [← hR]
  have HR := Lib.hid hR
  clear h hw hn hR
  go_enter Tryd.func18, Tryd.ntmps18
  go_wp2
  go_step3
  go_wp2_with fail
  refine (M0.out _).mono ?_
  rintro e w2 ⟨rfl, hb2⟩
  go_upto_region 2 with fail
  have hsz : w.heap.size + 1 + 1 < w2.heap.size := by have := hb2.size; simp at this; omega
  have hb0 : Below w.heap.size w w2 := past (past_alloc (past_alloc (past_alloc (Below.refl _ _) _) _) _) hb2
  have HST : Hid (FI w (w2.alloc (.cells #[.map (some (w.heap.size + 1)), .map (some (w.heap.size + 1 + 1)), .int .i64 60, .int .i64 600, .int .i64 6000, .int .i64 0, .int .i64 8, .int .i64 30, .int .i64 0, .int .i64 0] 79)) w2.heap.size (w.heap.size + 1) (w.heap.size + 1 + 1) l 0 Man.zero) := Lib.hid (by
    have hbn : Below w2.heap.size w2 (w2.alloc (.cells #[.map (some (w.heap.size + 1)), .map (some (w.heap.size + 1 + 1)), .int .i64 60, .int .i64 600, .int .i64 6000, .int .i64 0, .int .i64 8, .int .i64 30, .int .i64 0, .int .i64 0] 79)) := past_alloc (Below.refl _ _) _
    have hb1 : Below (w.alloc (.cells #[.int .i64 0, .int .i64 0, .int .i64 0, .int .i64 0, .int .i64 0, .int .i64 0] 39)).heap.size (w.alloc (.cells #[.int .i64 0, .int .i64 0, .int .i64 0, .int .i64 0, .int .i64 0, .int .i64 0] 39)) w2 := past (past_alloc (past_alloc (Below.refl _ _) _) _) hb2
    have hz0 : PHold w2 w.heap.size Pol.zero := PHold.below (w := (w.alloc (.cells #[.int .i64 0, .int .i64 0, .int .i64 0, .int .i64 0, .int .i64 0, .int .i64 0] 39))) (by unfold PHold Pol.zero; simp) (by simp) hb1
    have hf0 : Open6 w2 w.heap.size := Open6.below (w := (w.alloc (.cells #[.int .i64 0, .int .i64 0, .int .i64 0, .int .i64 0, .int .i64 0, .int .i64 0] 39))) (fun i hi => by simp) (by simp) hb1
    refine ⟨⟨by simp, by simp, by simp [Man.zero, Pol.dflt], by simp [Man.zero, Pol.dflt], by simp [Man.zero, Pol.dflt], by simp [Man.zero, Pol.dflt], by simp [Man.zero, Pol.dflt], by simp [Man.zero, Pol.dflt], by simp [Man.zero], by simp [Man.zero], fun i hi => by simp, ?_, ?_, by omega, by omega, by omega⟩, Man.Good.zero, rfl, past hb0 hbn, hz0.below (by omega) hbn, hf0.below (by omega) hbn, by simp; omega, by omega, by omega, by omega⟩
    · refine ThereIs.below (w := w2) ?_ hbn
      refine ThereIs.below ?_ hb2
      have ho := (World.ownsMap_made (w.alloc (.cells #[.int .i64 0, .int .i64 0, .int .i64 0, .int .i64 0, .int .i64 0, .int .i64 0] 39)) Tryd.prog 3 infR).alloc (.map #[] 0)
      rw [World.size_alloc] at ho
      exact ⟨_, ho, fun i => by simp [Man.zero, has], fun x hx => by simp [Man.zero] at hx⟩
    · refine GoneIs.below (w := w2) ?_ hbn
      refine GoneIs.below ?_ hb2
      have ho := World.ownsMap_made ((w.alloc (.cells #[.int .i64 0, .int .i64 0, .int .i64 0, .int .i64 0, .int .i64 0, .int .i64 0] 39)).alloc (.map #[] 0)) Tryd.prog 3 (unitElem (H := Unit))
      rw [World.size_alloc, World.size_alloc] at ho
      exact ⟨_, ho, fun i => by simp [Man.zero, has]⟩)
  clear hb2 hsz hb0 hmm M0
  generalize hgm : w2.heap.size = g at *
  generalize (w2.alloc (.cells #[.map (some (w.heap.size + 1)), .map (some (w.heap.size + 1 + 1)), .int .i64 60, .int .i64 600, .int .i64 6000, .int .i64 0, .int .i64 8, .int .i64 30, .int .i64 0, .int .i64 0] 79)) = ws at *
  clear hgm
  generalize w.heap.size + 1 + 1 = bG at *
  generalize w.heap.size + 1 = bT at *
  go_wp2
  go_step3
  go_wp2
  go_loopw [7, 16] (fun sc si wr => ∃ (i : Nat) (m : Man), sc = .int .i64 0 ∧ si = .int .i64 (i : Int) ∧ i ≤ n ∧ Hid (FI w wr g bT bG l i m)) (fun _ si _ => n - (intOf si).toNat)
  case atStart => exact ⟨0, Man.zero, rfl, rfl, Nat.zero_le _, HST⟩
  case round =>
    obtain ⟨i, m, rfl, rfl, hin, HI⟩ := hrel
    clear HST
    by_cases hi : i < n
    case pos =>
      have hi' : (i : Int) < (n : Int) := by omega
      have hi0 : (0 : Int) ≤ (i : Int) := by omega
      obtain ⟨b, off, hA, hbl, hcs⟩ := (H.out.below HI.out.below).cells (by omega)
      obtain ⟨c0, c1, c2, c3, c4, c5, c6, c7⟩ := hcs i hi
      have hlen : i < l.length := by rw [H.out.len]; exact hi
      have HE : Hid ((l.getD i Ent.zero).ok) := Lib.hid (H.out.ok _ (getD_mem_ent hlen))
      have HSY : Hid (foldOn Man.zero l = if m.fault (l.getD i Ent.zero) = 0 then foldOn (m.take (l.getD i Ent.zero)) (l.drop (i + 1)) else (m, m.fault (l.getD i Ent.zero))) := Lib.hid (by rw [HI.out.says, foldOn_step hlen])
      subst hA
      generalize l.getD i Ent.zero = e at *
      clear hcs hbl hlen
      obtain ⟨W, hW⟩ : ∃ W, W = wr.alloc (.cells #[.int .i64 e.kd, .int .i64 e.vw, .int .i64 e.id, .int .i64 e.tr, .int .i64 e.fr, .int .i64 e.tl, .int .u32 e.sm, str e.tx] 25) := ⟨_, rfl⟩
      have hbW : Below wr.heap.size wr W := by rw [hW]; exact past_alloc (Below.refl _ _) _
      have HIW := Lib.hid (HI.out.on hbW)
      have hE := EBox.new wr e
      have hW' : W = wr.alloc (.cells #[.int .i64 e.kd, .int .i64 e.vw, .int .i64 e.id, .int .i64 e.tr, .int .i64 e.fr, .int .i64 e.tl, .int .u32 e.sm, .string ⟨e.tx.toArray⟩] 25) := hW
      rw [← hW'] at hE
      have HEB := Lib.hid hE
      have hNW : Nam W := HW.out.below H0.out HIW.out.below
      have h0W : 0 < W.heap.size := Nat.lt_of_lt_of_le H0.out HIW.out.below.size
      have M1 := Lib.hid (fault_any HIW.out.at_ HIW.out.good e HE.out hNW h0W)
      have HNW := Lib.hid hNW
      have HWH := Lib.hid hW'
      clear hE hbW hNW h0W hW hW'
      obtain ⟨F, hF⟩ : ∃ F, F = m.fault e := ⟨_, rfl⟩
      rw [← hF] at M1 HSY
      have HFE := Lib.hid hF
      clear hF
      unfold Ent.val at M1
      unfold str at M1 c7
      go_upto_region 6 with fail
      rw [← HWH.out]
      have d0 := HEB.out.c0 ⟨W, Below.refl _ _⟩
      have d1 := HEB.out.c1 ⟨W, Below.refl _ _⟩
      have d2 := HEB.out.c2 ⟨W, Below.refl _ _⟩
      have d3 := HEB.out.c3 ⟨W, Below.refl _ _⟩
      have d4 := HEB.out.c4 ⟨W, Below.refl _ _⟩
      have d5 := HEB.out.c5 ⟨W, Below.refl _ _⟩
      have d6 := HEB.out.c6 ⟨W, Below.refl _ _⟩
      have d7 := HEB.out.c7 ⟨W, Below.refl _ _⟩
      simp only [SubB.w] at d0 d1 d2 d3 d4 d5 d6 d7
      clear c0 c1 c2 c3 c4 c5 c6 c7
      go_wp2_with fail
      refine M1.out.mono ?_
      rintro en W3 ⟨rfl, hb3⟩
      clear d0 d1 d2 d3 d4 d5 d6 d7 M1
      have HI3 := Lib.hid (HIW.out.on hb3)
      by_cases hF0 : F = 0
      · have HSZ : Hid (foldOn Man.zero l = foldOn (m.take e) (l.drop (i + 1))) := Lib.hid (by rw [HSY.out, if_pos hF0])
        have hf0 : m.fault e = 0 := by rw [← HFE.out]; exact hF0
        have HF0 := Lib.hid hf0
        have M2 := Lib.hid (take_any HI3.out.at_ HI3.out.good e HE.out hf0 (by have := HN.out; unfold maxLen; omega) (HNW.out.below (Nat.lt_of_lt_of_le H0.out HIW.out.below.size) hb3) (Nat.lt_of_lt_of_le H0.out HI3.out.below.size))
        have d0 := HEB.out.c0 ⟨W3, hb3⟩
        have d1 := HEB.out.c1 ⟨W3, hb3⟩
        have d2 := HEB.out.c2 ⟨W3, hb3⟩
        have d3 := HEB.out.c3 ⟨W3, hb3⟩
        have d4 := HEB.out.c4 ⟨W3, hb3⟩
        have d5 := HEB.out.c5 ⟨W3, hb3⟩
        have d6 := HEB.out.c6 ⟨W3, hb3⟩
        have d7 := HEB.out.c7 ⟨W3, hb3⟩
        simp only [SubB.w] at d0 d1 d2 d3 d4 d5 d6 d7
        unfold Ent.val str at M2
        subst hF0
        clear hf0 hb3
        go_wp2_with fail
        refine M2.out.mono ?_
        rintro en W4 ⟨rfl, hM4, hB4⟩
        have HI4 := Lib.hid (HI3.out.next HE.out HF0.out hM4 hB4 HSZ.out)
        clear hM4 hB4 d0 d1 d2 d3 d4 d5 d6 d7 M2
        have hin2 : i + 1 ≤ n := by omega
        have hib : i + 1 < 4611686018427387904 := by have := HN.out; omega
        go_wp2
        go_roundw
        case rel => exact ⟨i + 1, m.take e, rfl, by go_num, hin2, HI4⟩
        case measure => simp [intOf]; omega
      · have HRR : Hid (R = ([], Pol.zero, 0, F)) := Lib.hid (by
          rw [HR.out]
          unfold fold
          rw [HSY.out, if_neg hF0]
          simp only
          rw [if_neg hF0])
        have e1 : (F == 0) = false := by simpa using hF0
        have e2 : (F != 0) = true := by simpa using hF0
        obtain ⟨z0, z1, z2, z3, z4, z5⟩ := HI3.out.z
        have f0 := HI3.out.fz 0 (by decide)
        have f1 := HI3.out.fz 1 (by decide)
        have f2 := HI3.out.fz 2 (by decide)
        have f3 := HI3.out.fz 3 (by decide)
        have f4 := HI3.out.fz 4 (by decide)
        have f5 := HI3.out.fz 5 (by decide)
        unfold Pol.zero at z0 z1 z2 z3 z4 z5
        simp only at z0 z1 z2 z3 z4 z5
        clear hF0 hb3
        go_wp2
        (try rw [Exit.noGoto_ret])
        refine bodyPost_ret (v := .tuple #[.slice none 0 0, .agg #[.int .i64 0, .int .i64 0, .int .i64 0, .int .i64 0, .int .i64 0, .int .i64 0], .int .i64 0, .int .i64 F]) ?_ rfl ⟨none, 0, ?_, ?_, ?_⟩
        · simp [results, Tryd.results18, go_sem, *]
        · rw [HRR.out]; rfl
        · rw [HRR.out]; exact InfRow.none _
        · exact below_set6 HI3.out.below (Nat.le_refl _)
    case neg =>
      obtain rfl : i = n := by omega
      have hi' : ¬ (i : Int) < (i : Int) := by omega
      have HRR : Hid (R = (m.th, m.ru, m.vw, 0)) := Lib.hid (by
        rw [HR.out]
        have hs := HI.out.says
        rw [List.drop_of_length_le (by rw [H.out.len]; exact Nat.le_refl _)] at hs
        unfold fold
        rw [hs]
        rfl)
      have M1 := Lib.hid (fun (u : World) (hu : Below wr.heap.size wr u) => infos_any g bT m.th i u (HI.out.on hu).at_.c0 (HI.out.on hu).at_.th HI.out.good.asc HI.out.good.len.1 HN.out)
      have r0 := HI.out.at_.c0
      have r2 := HI.out.at_.c2
      have r3 := HI.out.at_.c3
      have r4 := HI.out.at_.c4
      have r5 := HI.out.at_.c5
      have r6 := HI.out.at_.c6
      have r7 := HI.out.at_.c7
      have r8 := HI.out.at_.c8
      obtain ⟨⟨th, ev, ⟨u0, u1, u2, u3, u4, u5⟩, vw, la⟩, hm⟩ : ∃ m', m' = m := ⟨m, rfl⟩
      subst hm
      simp only at r2 r3 r4 r5 r6 r7 r8 M1 HRR
      have HL : Hid (∀ u, Below wr.heap.size wr u → FI w u g bT bG l i ⟨th, ev, ⟨u0, u1, u2, u3, u4, u5⟩, vw, la⟩) := Lib.hid (fun u hu => HI.out.on hu)
      have hne : w.heap.size ≠ g := Nat.ne_of_lt HI.out.n1
      have HZ : Hid (∀ u, Below wr.heap.size wr u → (u.cell? ⟨w.heap.size, 0, none⟩ = some (.int .i64 0) ∧ u.cell? ⟨w.heap.size, 1, none⟩ = some (.int .i64 0) ∧ u.cell? ⟨w.heap.size, 2, none⟩ = some (.int .i64 0) ∧ u.cell? ⟨w.heap.size, 3, none⟩ = some (.int .i64 0) ∧ u.cell? ⟨w.heap.size, 4, none⟩ = some (.int .i64 0) ∧ u.cell? ⟨w.heap.size, 5, none⟩ = some (.int .i64 0)) ∧ (u.frozen? ⟨w.heap.size, 0, none⟩ = false ∧ u.frozen? ⟨w.heap.size, 1, none⟩ = false ∧ u.frozen? ⟨w.heap.size, 2, none⟩ = false ∧ u.frozen? ⟨w.heap.size, 3, none⟩ = false ∧ u.frozen? ⟨w.heap.size, 4, none⟩ = false ∧ u.frozen? ⟨w.heap.size, 5, none⟩ = false) ∧
          (u.cell? ⟨g, 2, none⟩ = some (.int .i64 u0) ∧ u.cell? ⟨g, 3, none⟩ = some (.int .i64 u1) ∧ u.cell? ⟨g, 4, none⟩ = some (.int .i64 u2) ∧ u.cell? ⟨g, 5, none⟩ = some (.int .i64 u3) ∧ u.cell? ⟨g, 6, none⟩ = some (.int .i64 u4) ∧ u.cell? ⟨g, 7, none⟩ = some (.int .i64 u5) ∧ u.cell? ⟨g, 8, none⟩ = some (.int .i64 vw))) := Lib.hid (fun u hu => by
        have h := HL.out u hu
        exact ⟨h.z, ⟨h.fz 0 (by decide), h.fz 1 (by decide), h.fz 2 (by decide), h.fz 3 (by decide), h.fz 4 (by decide), h.fz 5 (by decide)⟩, h.at_.c2, h.at_.c3, h.at_.c4, h.at_.c5, h.at_.c6, h.at_.c7, h.at_.c8⟩)
      go_wp2_with fail
      go_upto_region 12 with fail
      have HB := Lib.hid HI.out.below
      have HLT := Lib.hid HI.out.lt
      clear HI H
      go_region_with (first
          | (refine (M1.out _ (below_drewN wr 1)).mono ?_; rintro en W4 ⟨A', cap', rfl, hr4, hb4, ha4⟩; obtain ⟨⟨z0, z1, z2, z3, z4, z5⟩, ⟨f0, f1, f2, f3, f4, f5⟩, ⟨s2, s3, s4, s5, s6, s7, s8⟩⟩ := HZ.out W4 (past (below_drewN wr 1) hb4))
          | fail)
      all_goals
        have HBL := Lib.hid (past (past HB.out (below_drewN wr 1)) hb4)
        have HR4 := Lib.hid hr4
        have HA4 : Hid (∀ ad, A' = some ad → w.heap.size ≠ ad.block) := Lib.hid (fun ad e => Nat.ne_of_lt (Nat.lt_of_lt_of_le HLT.out (ha4 ad e)))
        clear hr4 hb4 ha4 M1 HL HZ
        go_wp2
        (try rw [Exit.noGoto_ret])
        refine bodyPost_ret (v := .tuple #[.slice A' th.length cap', .agg #[.int .i64 u0, .int .i64 u1, .int .i64 u2, .int .i64 u3, .int .i64 u4, .int .i64 u5], .int .i64 vw, .int .i64 0]) ?_ rfl ⟨A', cap', ?_, ?_, ?_⟩
        · simp [results, Tryd.results18, go_sem, *]
        · rw [HRR.out]; rfl
        · rw [HRR.out]
          exact (((((HR4.out.set HA4.out _).set HA4.out _).set HA4.out _).set HA4.out _).set HA4.out _).set HA4.out _
        · exact below_set6 HBL.out (Nat.le_refl _)
end Go.Proofs.YtdpoahjgdndnhaaDoor
