/-
  take: an entry that may come next is taken into the manifest.
-/
import Derived.Test.YtdpoahjgdndnhaaDoorETake
set_option maxRecDepth 100000
namespace Go.Proofs.YtdpoahjgdndnhaaDoor
open Go.RowKit Go.Maps
attribute [local go_sem ↓] Go.wp_at_zero Go.wp_at_succ
set_option linter.unusedVariables false

def TakePost (w : World) (g bT bG : Nat) (m : Man) (n : Nat) (en : Ending) (w' : World) : Prop :=
  en = .returned (.tuple #[]) ∧ MAt w' g bT bG m n ∧ ∀ B, B ≤ w.heap.size → B ≤ g → B ≤ bT → B ≤ bG → Below B w w'

set_option maxHeartbeats 4000000 in
theorem take_any {g bT bG : Nat} {m : Man} {n : Nat} {w : World} (h : MAt w g bT bG m n) (hg : m.Good n) (e : Ent) (he : e.ok) (hf : m.fault e = 0) (hmax : n < maxLen) (hw : Nam w) (hn : 0 < w.heap.size) :
    Calls Tryd.prog 48 #[.pointer (some ⟨g, 0, none⟩), e.val] w (TakePost w g bT bG (m.take e) (n + 1)) := by
  have hid : In64 e.id := he.2.2.1
  obtain ⟨hmay, hz1, hz2, hz3⟩ := Man.fault_zero hf
  obtain ⟨W1, hW1⟩ : ∃ W1, W1 = w.alloc (.cells #[.int .i64 e.kd, .int .i64 e.vw, .int .i64 e.id, .int .i64 e.tr, .int .i64 e.fr, .int .i64 e.tl, .int .u32 e.sm, .string ⟨e.tx.toArray⟩] 25) := ⟨_, rfl⟩
  have hbw : Below w.heap.size w W1 := by rw [hW1]; exact past_alloc (Below.refl _ _) _
  have hE := EBox.new w e
  rw [← hW1] at hE
  have hle : w.heap.size < W1.heap.size := by rw [hW1]; simp
  have hgl := h.lt
  have hTl : bT < w.heap.size := h.th.choose_spec.1.lt
  have hGl : bG < w.heap.size := h.go.choose_spec.1.lt
  have h1 : MAt W1 g bT bG m n := h.below hbw
  have hw1 : Nam W1 := hw.below hn hbw
  have hn1 : 0 < W1.heap.size := Nat.lt_trans hn hle
  have hgE : g ≠ w.heap.size := Nat.ne_of_lt hgl
  -- the last view is stored
  obtain ⟨W2, hW2⟩ : ∃ W2, W2 = W1.setCell ⟨g, 9, none⟩ (.int .i64 e.vw) := ⟨_, rfl⟩
  have hC2 : MCells W2 g bT bG m.ru m.vw e.vw := by rw [hW2]; exact h1.cells.la _
  have hT2 : ThereIs W2 bT m.th n := by rw [hW2]; exact h1.th.set (Ne.symm h1.gT) _
  have hG2 : GoneIs W2 bG (fun i => i ∈ m.ev ∧ ¬ m.has i) n := by rw [hW2]; exact h1.go.set (Ne.symm h1.gG) _
  have hs2 : W2.heap.size = W1.heap.size := by rw [hW2]; simp
  have hE2 : ∀ i, W2.cell? ⟨w.heap.size, i, none⟩ = W1.cell? ⟨w.heap.size, i, none⟩ := fun i => by rw [hW2]; exact World.cell?_setCell_far _ _ _ _ hgE
  have hb2 : ∀ B, B ≤ w.heap.size → B ≤ g → Below B w W2 := fun B hB hBg => by rw [hW2]; exact (hbw.mono hB).setCell hBg _
  have hw2 : Nam W2 := fun i hi => by
    rw [hW2, World.cell?_setCell_far _ _ _ _ (show g ≠ 0 from fun e0 => ?_)]
    · exact hw1 i hi
    · have c := h1.c0; have c' := hw1 0 (by decide); rw [e0] at c; rw [c] at c'; cases c'
  have q9 := h1.c9
  have f9 := h1.fz 9 (by decide)
  have d0 := hE.c0 ⟨W1, Below.refl _ _⟩
  have d1 := hE.c1 ⟨W1, Below.refl _ _⟩
  have d2 := hE.c2 ⟨W1, Below.refl _ _⟩
  have d3 := hE.c3 ⟨W1, Below.refl _ _⟩
  have d4 := hE.c4 ⟨W1, Below.refl _ _⟩
  have d5 := hE.c5 ⟨W1, Below.refl _ _⟩
  have d6 := hE.c6 ⟨W1, Below.refl _ _⟩
  have d7 := hE.c7 ⟨W1, Below.refl _ _⟩
  simp only [SubB.w] at d0 d1 d2 d3 d4 d5 d6 d7
  have p0 := (hE2 0).trans d0
  have p1 := (hE2 1).trans d1
  have p2 := (hE2 2).trans d2
  have p3 := (hE2 3).trans d3
  have p4 := (hE2 4).trans d4
  have p5 := (hE2 5).trans d5
  have p6 := (hE2 6).trans d6
  have p7 := (hE2 7).trans d7
  have HE2 := Lib.hid hE2
  have HNE := Lib.hid h.ne
  have HGT := Lib.hid h.gT
  have HGG := Lib.hid h.gG
  have r0 := hC2.c0
  have r1 := hC2.c1
  have HC2 := Lib.hid hC2
  have HW1 := Lib.hid hW1
  have HW2 := Lib.hid hW2
  clear hE hE2 h h1 hw hbw hw1 hn1 d2 d3 d4 d5 d6 d7 hW1 hW2
  obtain ⟨T, hT⟩ : ∃ T, T = m.take e := ⟨_, rfl⟩
  rw [← hT]
  by_cases k1 : e.kd = 1
  · have hTe : T = { m with th := insI e.inf m.th, ev := e.id :: m.ev, la := e.vw } := by rw [hT]; unfold Man.take; rw [if_pos k1]
    obtain ⟨D, hown, hh, hv⟩ := hT2
    obtain ⟨W3, hrun, hown', hturn⟩ := hown.drew.store keys3 Tryd.underlying76 hmax (keyOf_int_mk Tryd.underlying3 (fits64 hid)) (infR_mk e.inf)
    have hnot : e.id ∉ m.ev := hz1 k1
    have hput := there_put hown.isMap hh hv e.inf (fun y hy e2 => hnot (by rw [← show y.id = e.id from e2]; exact hg.sub _ (List.mem_map.2 ⟨y, hy, rfl⟩)))
    have hEND : Hid (TakePost w g bT bG T (n + 1) (.returned (.tuple #[])) W3) := Lib.hid (by
      refine ⟨rfl, ?_, ?_⟩
      · rw [hTe]
        have hd : Below W2.heap.size W2 W2.drew := below_drewN W2 1
        refine ((hC2.below hd).turned hturn HGT.out).at_ ⟨_, hown', hput.1, hput.2⟩ ?_ HNE.out HGT.out HGG.out
        refine ((hG2.below hd).kept hturn.grown (fun e => HNE.out (Option.some.inj e).symm)).mono (Nat.le_succ _) (fun i => ?_)
        show (i ∈ m.ev ∧ ¬ m.has i) ↔ (i ∈ e.id :: m.ev ∧ ¬ i ∈ (insI e.inf m.th).map Inf.id)
        have hmem : i ∈ (insI e.inf m.th).map Inf.id ↔ (i = e.id ∨ m.has i) := by
          unfold Man.has
          rw [List.mem_map, List.mem_map]
          constructor
          · rintro ⟨y, hy, rfl⟩
            rcases mem_insI.1 hy with rfl | hy
            · exact .inl rfl
            · exact .inr ⟨y, hy, rfl⟩
          · rintro (rfl | ⟨y, hy, rfl⟩)
            · exact ⟨e.inf, mem_insI.2 (.inl rfl), rfl⟩
            · exact ⟨y, mem_insI.2 (.inr hy), rfl⟩
        rw [hmem, List.mem_cons]
        constructor
        · rintro ⟨h1, h2⟩
          exact ⟨.inr h1, fun h => h.elim (fun h => hnot (h ▸ h1)) h2⟩
        · rintro ⟨h1, h2⟩
          exact ⟨h1.resolve_left (fun h => h2 (.inl h)), fun h => h2 (.inr h)⟩
      · intro B hB hBg hBT hBG
        have hd : W2.heap.size ≤ W2.drew.heap.size := Nat.le_refl _
        exact ((hb2 B hB hBg).trans ((below_drewN W2 1).mono (by omega))).grown hturn.grown (by show B ≤ W2.heap.size; omega) (fun k hk => by cases hk; exact hBT))
    have hS3 : W3.cell? ⟨g, 0, none⟩ = some (.map (some bT)) ∧ W3.cell? ⟨w.heap.size, 2, none⟩ = some (.int .i64 e.id) ∧ W3.cell? ⟨w.heap.size, 3, none⟩ = some (.int .i64 e.tr) ∧ W3.cell? ⟨w.heap.size, 4, none⟩ = some (.int .i64 e.fr) ∧ W3.cell? ⟨w.heap.size, 5, none⟩ = some (.int .i64 e.tl) ∧ W3.cell? ⟨w.heap.size, 6, none⟩ = some (.int .u32 e.sm) := by
      have hne : some w.heap.size ≠ some bT := fun e => by have := Option.some.inj e; omega
      exact ⟨hturn.grown.cell (show W2.drew.cell? _ = _ from r0) (fun e => HGT.out (Option.some.inj e)), hturn.grown.cell (show W2.drew.cell? _ = _ from p2) hne, hturn.grown.cell (show W2.drew.cell? _ = _ from p3) hne, hturn.grown.cell (show W2.drew.cell? _ = _ from p4) hne, hturn.grown.cell (show W2.drew.cell? _ = _ from p5) hne, hturn.grown.cell (show W2.drew.cell? _ = _ from p6) hne⟩
    clear hTe hT hf hmay hz1 hz2 hz3 he hown hh hv hown' hturn hput hnot hG2 hC2 hb2
    unfold Ent.val str
    obtain ⟨kd, vw, id, tr, fr, tl, sm, tx⟩ := e
    unfold Inf.val Ent.inf at hrun
    simp only at *
    subst k1
    go_enter Tryd.func48, Tryd.ntmps48
    go_upto_region 1 with fail
    rw [← HW1.out]
    go_upto_region 2 with fail
    rw [← HW2.out]
    go_upto_region 4 with fail
    go_region_held3 (fun w' => w'.cell? ⟨g, 0, none⟩ = some (.map (some bT)) ∧ w'.cell? ⟨w.heap.size, 2, none⟩ = some (.int .i64 id) ∧ w'.cell? ⟨w.heap.size, 3, none⟩ = some (.int .i64 tr) ∧ w'.cell? ⟨w.heap.size, 4, none⟩ = some (.int .i64 fr) ∧ w'.cell? ⟨w.heap.size, 5, none⟩ = some (.int .i64 tl) ∧ w'.cell? ⟨w.heap.size, 6, none⟩ = some (.int .u32 sm))
      (first
        | exact ⟨r0, p2, p3, p4, p5, p6⟩
        | exact hS3)
      (first
        | fail)
    go_wp2
    refine bodyPost_end (v := .tuple #[]) ?_ rfl hEND.out
    simp [results, Tryd.results48, go_sem]
  by_cases k2 : e.kd = 2
  · have hTe : T = { m with th := m.th.filter (fun x => x.id ≠ e.id), la := e.vw } := by rw [hT]; unfold Man.take; rw [if_neg k1, if_pos k2]
    obtain ⟨D, hown, hh, hv⟩ := hT2
    have hhas : m.has e.id := hz2 k2
    have hdel := there_del hh hv e.id
    have HEND : Hid (∀ W3 W4, W3.ownsMap Tryd.prog 3 infR bT n (D.del (.int .i64 e.id)) → W2.drew.mapTurned W3 bT → (∃ W3', W3' = W3.drew ∧ W3'.mapTurned W4 bG ∧ ∃ DG n', W4.ownsMap Tryd.prog 3 unitElem bG (n + 1) DG ∧ n' = n ∧ ∀ i, has DG (.int .i64 i) = true ↔ (i = e.id ∨ (i ∈ m.ev ∧ ¬ m.has i))) → TakePost w g bT bG T (n + 1) (.returned (.tuple #[])) W4) := Lib.hid (by
      rintro W3 W4 h3 ht3 ⟨_, rfl, ht4, DG, _, h4, rfl, hg4⟩
      have hd : Below W2.heap.size W2 W2.drew := below_drewN W2 1
      have hd3 : Below W3.heap.size W3 W3.drew := below_drewN W3 1
      refine ⟨rfl, ?_, ?_⟩
      · rw [hTe]
        have hC3 := ((hC2.below hd).turned ht3 HGT.out).below hd3
        refine (hC3.turned ht4 HGG.out).at_ ?_ ⟨DG, h4, ?_⟩ HNE.out HGT.out HGG.out
        · exact ⟨_, ((h3.drew).kept ht4.grown (fun e => HNE.out (Option.some.inj e))).mono (Nat.le_succ _), hdel.1, hdel.2⟩
        · intro i
          rw [hg4]
          show (i = e.id ∨ (i ∈ m.ev ∧ ¬ m.has i)) ↔ (i ∈ m.ev ∧ ¬ i ∈ (m.th.filter (fun x => x.id ≠ e.id)).map Inf.id)
          have hmem : i ∈ (m.th.filter (fun x => x.id ≠ e.id)).map Inf.id ↔ (i ≠ e.id ∧ m.has i) := by
            unfold Man.has
            rw [List.mem_map, List.mem_map]
            constructor
            · rintro ⟨y, hy, rfl⟩
              have := List.mem_filter.1 hy
              exact ⟨by simpa using this.2, y, this.1, rfl⟩
            · rintro ⟨hi, y, hy, rfl⟩
              exact ⟨y, List.mem_filter.2 ⟨hy, by simp [hi]⟩, rfl⟩
          rw [hmem]
          constructor
          · rintro (rfl | ⟨h1, h2⟩)
            · exact ⟨hg.sub _ hhas, fun h => h.1 rfl⟩
            · exact ⟨h1, fun h => h2 h.2⟩
          · rintro ⟨h1, h2⟩
            by_cases hi : i = e.id
            · exact .inl hi
            · exact .inr ⟨h1, fun h => h2 ⟨hi, h⟩⟩
      · intro B hB hBg hBT hBG
        have hsz3 := ht3.grown.size
        have hx3 : Below B w W3 := ((hb2 B hB hBg).trans ((below_drewN W2 1).mono (by omega))).grown ht3.grown (by show B ≤ W2.heap.size; omega) (fun k hk => by cases hk; exact hBT)
        exact (hx3.trans ((below_drewN W3 1).mono (by have : W2.heap.size ≤ W3.heap.size := hsz3; omega))).grown ht4.grown (by show B ≤ W3.heap.size; have : W2.heap.size ≤ W3.heap.size := hsz3; omega) (fun k hk => by cases hk; exact hBG))
    obtain ⟨DG, hownG, hhG⟩ := hG2
    have HOWN := Lib.hid hown
    have HOWNG : Hid (∀ W3, W2.drew.mapTurned W3 bT → ∃ W4, (Instr.mapUpdate 77 (.map (some bG)) (.int .i64 e.id) (.agg #[])).run Tryd.prog W3.drew = .ok () W4 ∧ W3.drew.mapTurned W4 bG ∧ ∃ DG n', W4.ownsMap Tryd.prog 3 unitElem bG (n + 1) DG ∧ n' = n ∧ ∀ i, has DG (.int .i64 i) = true ↔ (i = e.id ∨ (i ∈ m.ev ∧ ¬ m.has i))) := Lib.hid (by
      intro W3 ht3
      have h3 : W3.ownsMap Tryd.prog 3 unitElem bG n DG := hownG.drew.kept ht3.grown (fun e => HNE.out (Option.some.inj e).symm)
      obtain ⟨W4, hrun, hown', hturn⟩ := h3.drew.store keys3 Tryd.underlying77 hmax (keyOf_int_mk Tryd.underlying3 (fits64 hid)) unitElem_mk
      refine ⟨W4, hrun, hturn, _, n, hown', rfl, fun i => ?_⟩
      by_cases hi : i = e.id
      · subst hi
        rw [has_put_same h3.isMap (keyLit _)]
        exact ⟨fun _ => .inl rfl, fun _ => rfl⟩
      · rw [has_put_other (lit_ne hi), hhG]
        exact ⟨fun h => .inr h, fun h => h.resolve_left hi⟩)
    have HCE : Hid (∀ W3, W2.drew.mapTurned W3 bT → W3.cell? ⟨w.heap.size, 2, none⟩ = some (.int .i64 e.id) ∧ W3.cell? ⟨g, 1, none⟩ = some (.map (some bG))) := Lib.hid (fun W3 ht3 =>
      ⟨ht3.grown.cell (show W2.drew.cell? _ = _ from p2) (fun e => by have := Option.some.inj e; simp only at this; omega), ht3.grown.cell (show W2.drew.cell? _ = _ from r1) (fun e => HGT.out (Option.some.inj e))⟩)
    have HCE3 : Hid (∀ W3, W2.drew.mapTurned W3 bT → W3.cell? ⟨g, 0, none⟩ = some (.map (some bT)) ∧ W3.cell? ⟨w.heap.size, 2, none⟩ = some (.int .i64 e.id)) := Lib.hid (fun W3 ht3 =>
      ⟨ht3.grown.cell (show W2.drew.cell? _ = _ from r0) (fun e => HGT.out (Option.some.inj e)), (HCE.out W3 ht3).1⟩)
    have HID := Lib.hid hid
    clear hTe hT hf hmay hz1 hz2 hz3 he hown hh hv hdel hhas hownG hhG hC2 hb2 hid HC2
    unfold Ent.val str
    obtain ⟨kd, vw, id, tr, fr, tl, sm, tx⟩ := e
    simp only at *
    subst k2
    go_enter Tryd.func48, Tryd.ntmps48
    go_upto_region 1 with fail
    rw [← HW1.out]
    go_upto_region 2 with fail
    rw [← HW2.out]
    go_upto_region 6 with fail
    go_region_held3 (fun w' => w'.cell? ⟨g, 0, none⟩ = some (.map (some bT)) ∧ w'.cell? ⟨w.heap.size, 2, none⟩ = some (.int .i64 id))
      (first
        | exact hS3
        | exact ⟨r0, p2⟩)
      (first
        | (refine step_delete (by rfl) _ _ (by rfl) bT n id D (by rfl) (by rfl) HID.out HOWN.out.drew ?_; intro W3 hown3 hturn3; have hS3 := HCE3.out W3 hturn3)
        | fail)
    obtain ⟨W4, hrun4, hturn4, hx4⟩ := HOWNG.out W3 hturn3
    obtain ⟨s2, s1⟩ := HCE.out W3 hturn3
    have hEND := Lib.hid (HEND.out W3 W4 hown3 hturn3 ⟨_, rfl, hturn4, hx4⟩)
    clear hown3 hturn3 hturn4 hx4 HEND HOWNG HCE HOWN
    go_wp2_with fail
    go_upto_region 7 with fail
    go_region
    go_wp2
    refine bodyPost_end (v := .tuple #[]) ?_ rfl hEND.out
    simp [results, Tryd.results48, go_sem]
  by_cases k3 : e.kd = 3
  · have hTe : T = { m with vw := e.vw, la := e.vw } := by rw [hT]; unfold Man.take; rw [if_neg k1, if_neg k2, if_pos k3]
    have hEND : Hid (TakePost w g bT bG T (n + 1) (.returned (.tuple #[])) (W2.setCell ⟨g, 8, none⟩ (.int .i64 e.vw))) := Lib.hid (by
      refine ⟨rfl, ?_, fun B hB hBg hBT hBG => (hb2 B hB hBg).setCell hBg _⟩
      rw [hTe]
      exact (hC2.vw e.vw).at_ ((hT2.set (Ne.symm HGT.out) _).mono (Nat.le_succ _)) ((hG2.set (Ne.symm HGG.out) _).mono (Nat.le_succ _) (fun i => Iff.rfl)) HNE.out HGT.out HGG.out)
    have r8 := hC2.c8
    have f8 := hC2.fz 8 (by decide)
    clear hTe hT hf hmay hz1 hz2 hz3 he hT2 hG2 hC2 hb2 HC2 k1 k2
    unfold Ent.val str
    obtain ⟨kd, vw, id, tr, fr, tl, sm, tx⟩ := e
    simp only at *
    subst k3
    go_enter Tryd.func48, Tryd.ntmps48
    go_upto_region 1 with fail
    rw [← HW1.out]
    go_upto_region 2 with fail
    rw [← HW2.out]
    go_wp2
    refine bodyPost_end (v := .tuple #[]) ?_ rfl hEND.out
    simp [results, Tryd.results48, go_sem]
  by_cases k4 : e.kd = 4
  · have hTe : T = { m with ru := (parse e.tx).1, la := e.vw } := by rw [hT]; unfold Man.take; rw [if_neg k1, if_neg k2, if_neg k3, if_pos k4]
    have hN2 : 0 < W2.heap.size := by omega
    have M := Lib.hid (parse_any e.tx W2 he.2.2.2.2.2.2.2 hw2 hN2)
    obtain ⟨P, hP⟩ : ∃ P, P = parse e.tx := ⟨_, rfl⟩
    rw [← hP] at M hTe
    have HEND : Hid (∀ W3, Below W2.heap.size W2 W3 → TakePost w g bT bG T (n + 1) (.returned (.tuple #[])) ((((((W3.setCell ⟨g, 2, none⟩ (.int .i64 P.1.a0)).setCell ⟨g, 3, none⟩ (.int .i64 P.1.a1)).setCell ⟨g, 4, none⟩ (.int .i64 P.1.a2)).setCell ⟨g, 5, none⟩ (.int .i64 P.1.a3)).setCell ⟨g, 6, none⟩ (.int .i64 P.1.cn)).setCell ⟨g, 7, none⟩ (.int .i64 P.1.sp))) := Lib.hid (by
      intro W3 hb3
      refine ⟨rfl, ?_, fun B hB hBg hBT hBG => ?_⟩
      · rw [hTe]
        have ht := hT2.below hb3
        have hgn := hG2.below hb3
        refine ((hC2.below hb3).ru P.1).at_ ?_ ?_ HNE.out HGT.out HGG.out
        · exact ((((((ht.set (Ne.symm HGT.out) _).set (Ne.symm HGT.out) _).set (Ne.symm HGT.out) _).set (Ne.symm HGT.out) _).set (Ne.symm HGT.out) _).set (Ne.symm HGT.out) _).mono (Nat.le_succ _)
        · exact ((((((hgn.set (Ne.symm HGG.out) _).set (Ne.symm HGG.out) _).set (Ne.symm HGG.out) _).set (Ne.symm HGG.out) _).set (Ne.symm HGG.out) _).set (Ne.symm HGG.out) _).mono (Nat.le_succ _) (fun i => Iff.rfl)
      · exact below_set6 ((hb2 B hB hBg).trans (hb3.mono (by omega))) hBg)
    have HC : Hid (∀ W3, Below W2.heap.size W2 W3 → MCells W3 g bT bG m.ru m.vw e.vw) := Lib.hid (fun W3 hb3 => hC2.below hb3)
    obtain ⟨⟨u0, u1, u2, u3, u4, u5⟩, pc, pl⟩ := P
    unfold Pol.val at M
    clear hTe hT hf hmay hz1 hz2 hz3 he hT2 hG2 hC2 hb2 HC2 k1 k2 k3 hP hN2
    unfold Ent.val
    unfold str at M ⊢
    obtain ⟨kd, vw, id, tr, fr, tl, sm, tx⟩ := e
    simp only at *
    subst k4
    go_enter Tryd.func48, Tryd.ntmps48
    go_upto_region 1 with fail
    rw [← HW1.out]
    go_upto_region 2 with fail
    rw [← HW2.out]
    go_wp2_with fail
    refine M.out.mono ?_
    rintro en W3 ⟨rfl, hb3⟩
    have hEND := Lib.hid (HEND.out W3 hb3)
    obtain ⟨_, _, s2, s3, s4, s5, s6, s7, _, _, sf⟩ := HC.out W3 hb3
    have f2 := sf 2 (by decide)
    have f3 := sf 3 (by decide)
    have f4 := sf 4 (by decide)
    have f5 := sf 5 (by decide)
    have f6 := sf 6 (by decide)
    have f7 := sf 7 (by decide)
    clear HEND HC hb3 M sf
    go_wp2
    refine bodyPost_end (v := .tuple #[]) ?_ rfl hEND.out
    simp [results, Tryd.results48, go_sem]
  · exact absurd hmay.2.2 (by unfold Ent.says; rw [if_neg k1, if_neg k2, if_neg k3, if_neg k4]; exact fun h => h)
end Go.Proofs.YtdpoahjgdndnhaaDoor
