/-
  A manifest in memory: what is there, what is gone, the rule, the view.
-/
import Derived.Test.YtdpoahjgdndnhaaDoorEInfos
import Derived.Deep.RegionLaw
set_option maxRecDepth 100000
namespace Go.Proofs.YtdpoahjgdndnhaaDoor
open Go.RowKit Go.Maps
set_option linter.unusedVariables false

theorem fits64 {i : Int} (h : In64 i) : (Lit.int .i64 i).wf = true := by
  unfold In64 at h
  exact WalkArith.wf_i64 (by omega)
theorem look_there {D : DataW Unit} (b : Nat) (i : Int) (hi : In64 i) : ∃ x : Inf, ∀ (u : World) (nn : Nat), u.ownsMap Tryd.prog 3 infR b nn D → (Instr.lookup 76 (.map (some b)) (.int .i64 i) true).run Tryd.prog u = .ok (.tuple #[x.val, .bool (has D (.int .i64 i))]) u := by
  have key : ∀ (u : World) (nn : Nat), u.ownsMap Tryd.prog 3 infR b nn D → ∃ x : Inf, (Instr.lookup 76 (.map (some b)) (.int .i64 i) true).run Tryd.prog u = .ok (.tuple #[x.val, .bool (has D (.int .i64 i))]) u ∧ x.dat = D.atKey (.int .i64 i) Inf.zero.dat := by
    intro u nn h
    obtain ⟨v, ps, hrun, hR⟩ := h.look_ok keys3 Tryd.underlying76 (z := Inf.zero.val) (by kernel_rfl) (infR_mk Inf.zero) (keyOf_int_mk Tryd.underlying3 (fits64 hi))
    obtain ⟨x, rfl, e⟩ := infR_inv hR
    exact ⟨x, hrun, (Prod.mk.inj e).1.symm⟩
  by_cases h : ∃ (u : World) (nn : Nat), u.ownsMap Tryd.prog 3 infR b nn D
  · obtain ⟨u, nn, h⟩ := h
    obtain ⟨x, _, hx⟩ := key u nn h
    refine ⟨x, fun u' nn' h' => ?_⟩
    obtain ⟨y, hy, hye⟩ := key u' nn' h'
    rw [show x = y from Inf.dat_inj (hx.trans hye.symm)]
    exact hy
  · exact ⟨Inf.zero, fun u nn hu => absurd ⟨u, nn, hu⟩ h⟩
theorem look_gone {D : DataW Unit} (b : Nat) (i : Int) (hi : In64 i) (u : World) (nn : Nat) (h : u.ownsMap Tryd.prog 3 unitElem b nn D) : (Instr.lookup 77 (.map (some b)) (.int .i64 i) true).run Tryd.prog u = .ok (.tuple #[.agg #[], .bool (has D (.int .i64 i))]) u := by
  obtain ⟨v, ps, hrun, hR⟩ := h.look_ok keys3 Tryd.underlying77 (z := .agg #[]) (by kernel_rfl) unitElem_mk (keyOf_int_mk Tryd.underlying3 (fits64 hi))
  obtain ⟨rfl, _⟩ := unitElem_inv hR
  exact hrun

/-- Block g holds a manifest. -/
structure MAt (w : World) (g bT bG : Nat) (m : Man) (n : Nat) : Prop where
  c0 : w.cell? ⟨g, 0, none⟩ = some (.map (some bT))
  c1 : w.cell? ⟨g, 1, none⟩ = some (.map (some bG))
  c2 : w.cell? ⟨g, 2, none⟩ = some (.int .i64 m.ru.a0)
  c3 : w.cell? ⟨g, 3, none⟩ = some (.int .i64 m.ru.a1)
  c4 : w.cell? ⟨g, 4, none⟩ = some (.int .i64 m.ru.a2)
  c5 : w.cell? ⟨g, 5, none⟩ = some (.int .i64 m.ru.a3)
  c6 : w.cell? ⟨g, 6, none⟩ = some (.int .i64 m.ru.cn)
  c7 : w.cell? ⟨g, 7, none⟩ = some (.int .i64 m.ru.sp)
  c8 : w.cell? ⟨g, 8, none⟩ = some (.int .i64 m.vw)
  c9 : w.cell? ⟨g, 9, none⟩ = some (.int .i64 m.la)
  fz : ∀ i, i < 10 → w.frozen? ⟨g, i, none⟩ = false
  th : ThereIs w bT m.th n
  go : GoneIs w bG (fun i => i ∈ m.ev ∧ ¬ m.has i) n
  ne : bT ≠ bG
  gT : g ≠ bT
  gG : g ≠ bG
theorem GoneIs.below {w w' : World} {b : Nat} {P : Int → Prop} {n : Nat} (h : GoneIs w b P n) (hb : Below w.heap.size w w') : GoneIs w' b P n := by
  obtain ⟨D, h1, h2⟩ := h
  refine ⟨D, ?_, h2⟩
  have hlt := h1.lt
  obtain ⟨es, clock, hbk, F, hs, hD⟩ := h1
  exact ⟨es, clock, (hb.block b hlt).trans hbk, F, hs, hD⟩
theorem MAt.lt {w : World} {g bT bG : Nat} {m : Man} {n : Nat} (h : MAt w g bT bG m n) : g < w.heap.size := World.block_lt_of_cell? w _ h.c0
theorem MAt.below {w w' : World} {g bT bG : Nat} {m : Man} {n : Nat} (h : MAt w g bT bG m n) (hb : Below w.heap.size w w') : MAt w' g bT bG m n := by
  have hg := h.lt
  exact ⟨by rw [hb.cell hg]; exact h.c0, by rw [hb.cell hg]; exact h.c1, by rw [hb.cell hg]; exact h.c2, by rw [hb.cell hg]; exact h.c3, by rw [hb.cell hg]; exact h.c4, by rw [hb.cell hg]; exact h.c5, by rw [hb.cell hg]; exact h.c6, by rw [hb.cell hg]; exact h.c7, by rw [hb.cell hg]; exact h.c8, by rw [hb.cell hg]; exact h.c9,
    fun i hi => by rw [hb.frozen hg]; exact h.fz i hi, h.th.below hb, h.go.below hb, h.ne, h.gT, h.gG⟩

theorem fault_is {m : Man} {e : Ent} {n : Nat} (hg : m.Good n) {B1 BT BG : Bool} (h1 : B1 = true ↔ e.may) (hT : BT = true ↔ m.has e.id) (hG : BG = true ↔ (e.id ∈ m.ev ∧ ¬ m.has e.id)) :
    m.fault e = if B1 = false then 1 else if e.kd = 1 ∧ (BT || BG) = true then 7 else if e.kd = 2 ∧ BT = false then 9 else if e.vw < m.la then 12 else 0 := by
  have hev : (BT || BG) = true ↔ e.id ∈ m.ev := by
    rw [Bool.or_eq_true, hT, hG]
    constructor
    · rintro (h | h)
      · exact hg.sub _ h
      · exact h.1
    · intro h
      by_cases hh : m.has e.id
      · exact .inl hh
      · exact .inr ⟨h, hh⟩
  have eT : BT = decide (m.has e.id) := by rw [Bool.eq_iff_iff, hT, decide_eq_true_iff]
  have eO : (BT || BG) = decide (e.id ∈ m.ev) := by rw [Bool.eq_iff_iff, hev, decide_eq_true_iff]
  have eB : B1 = decide e.may := by rw [Bool.eq_iff_iff, h1, decide_eq_true_iff]
  unfold Man.fault
  rw [eO, eT, eB]
  simp only [decide_eq_false_iff_not, decide_eq_true_eq]
theorem MAt.sub {w : World} {g bT bG : Nat} {m : Man} {n : Nat} (h : MAt w g bT bG m n) (u : SubB w) : MAt u.w g bT bG m n := h.below u.le

set_option maxHeartbeats 4000000 in
theorem fault_any {g bT bG : Nat} {m : Man} {n : Nat} {w : World} (h : MAt w g bT bG m n) (hg : m.Good n) (e : Ent) (he : e.ok) (hw : Nam w) (hn : 0 < w.heap.size) :
    Calls Tryd.prog 47 #[.pointer (some ⟨g, 0, none⟩), e.val] w fun en w' => en = .returned (.int .i64 (m.fault e)) ∧ Below w.heap.size w w' := by
  obtain ⟨D, hown, hth, _⟩ := h.th
  obtain ⟨DG, hownG, hgo⟩ := h.go
  have hid : In64 e.id := he.2.2.1
  obtain ⟨x, hx⟩ := look_there (D := D) bT e.id hid
  obtain ⟨BT, hBT⟩ : ∃ B, B = has D (.int .i64 e.id) := ⟨_, rfl⟩
  obtain ⟨BG, hBG⟩ : ∃ B, B = has DG (.int .i64 e.id) := ⟨_, rfl⟩
  have HT : Hid (BT = true ↔ m.has e.id) := Lib.hid (by rw [hBT]; exact hth _)
  have HG : Hid (BG = true ↔ (e.id ∈ m.ev ∧ ¬ m.has e.id)) := Lib.hid (by rw [hBG]; exact hgo _)
  obtain ⟨W1, hW1⟩ : ∃ W1, W1 = w.alloc (.cells #[.int .i64 e.kd, .int .i64 e.vw, .int .i64 e.id, .int .i64 e.tr, .int .i64 e.fr, .int .i64 e.tl, .int .u32 e.sm, .string ⟨e.tx.toArray⟩] 25) := ⟨_, rfl⟩
  have hbw : Below w.heap.size w W1 := by rw [hW1]; exact past_alloc (Below.refl _ _) _
  have hbt : bT < w.heap.size := hown.lt
  have hbg : bG < w.heap.size := hownG.lt
  have L1 : ∀ u : SubB W1, (Instr.lookup 76 (.map (some bT)) (.int .i64 e.id) true).run Tryd.prog u.w = .ok (.tuple #[x.val, .bool BT]) u.w := fun u => by
    rw [hBT]
    refine hx u.w n ?_
    obtain ⟨es, clock, hb, Ft, hs, hD⟩ := hown
    exact ⟨es, clock, ((past hbw u.le).block bT hbt).trans hb, Ft, hs, hD⟩
  have L2 : ∀ u : SubB W1, (Instr.lookup 77 (.map (some bG)) (.int .i64 e.id) true).run Tryd.prog u.w = .ok (.tuple #[.agg #[], .bool BG]) u.w := fun u => by
    rw [hBG]
    refine look_gone bG e.id hid u.w n ?_
    obtain ⟨es, clock, hb, Ft, hs, hD⟩ := hownG
    exact ⟨es, clock, ((past hbw u.le).block bG hbg).trans hb, Ft, hs, hD⟩
  have HB := Lib.hid (EBox.new w e)
  rw [← hW1] at HB
  have hle : w.heap.size < W1.heap.size := by rw [hW1]; simp
  have hlg : g < W1.heap.size := Nat.lt_trans h.lt hle
  have HU : Hid (∀ u, Below W1.heap.size W1 u → Below w.heap.size w u ∧ MAt u g bT bG m n ∧ Nam u ∧ 0 < u.heap.size) := Lib.hid (fun u hu => ⟨past hbw hu, h.below (past hbw hu), hw.below hn (past hbw hu), Nat.lt_of_lt_of_le hn (past hbw hu).size⟩)
  have M1 := Lib.hid (fun (u : SubB W1) => may_ent e u.w he (HU.out _ u.le).2.2.1 (HU.out _ u.le).2.2.2)
  obtain ⟨B1, hB1⟩ : ∃ B, B = decide e.may := ⟨_, rfl⟩
  rw [← hB1] at M1
  obtain ⟨R, hR⟩ : ∃ R, R = m.fault e := ⟨_, rfl⟩
  rw [← hR]
  have HF : Hid (R = if B1 = false then 1 else if e.kd = 1 ∧ (BT || BG) = true then 7 else if e.kd = 2 ∧ BT = false then 9 else if e.vw < m.la then 12 else 0) := Lib.hid (hR.trans (fault_is hg (by rw [hB1]; exact decide_eq_true_iff) HT.out HG.out))
  clear HT HG
  clear hB1 hR hBT hBG hth hgo hown hownG hx hid he h hg hw hbw hbt hbg
  unfold Ent.val str
  obtain ⟨kd, vw, id, tr, fr, tl, sm, tx⟩ := e
  obtain ⟨x0, x1, x2, x3, x4⟩ := x
  unfold Inf.val at L1
  simp only at *
  have b0 : ∀ u : SubB W1, u.w.cell? ⟨g, 0, none⟩ = some (.map (some bT)) := fun u => (HU.out _ u.le).2.1.c0
  have b1 : ∀ u : SubB W1, u.w.cell? ⟨g, 1, none⟩ = some (.map (some bG)) := fun u => (HU.out _ u.le).2.1.c1
  obtain ⟨c0, c1, c2, c3, c4, c5, c6, c7⟩ := HB.out
  simp only at c0 c1 c2 c3 c4 c5 c6 c7
  go_enter Tryd.func47, Tryd.ntmps47
  go_upto_region 1 with fail
  rw [← hW1]
  clear hW1
  have hsubA : ∀ o, Below W1.heap.size W1 (W1.alloc o) := fun o => past_alloc (Below.refl _ _) o
  have hsubB : ∀ o, Below W1.heap.size W1 (W1.alloc o).drew := fun o => past (past_alloc (Below.refl _ _) o) (below_drewN _ 1)
  have hsubD : Below W1.heap.size W1 W1.drew := below_drewN W1 1
  have e0 := b0 ⟨W1, Below.refl _ _⟩
  have e1 := b1 ⟨W1, Below.refl _ _⟩
  have k1 := L1 ⟨_, hsubD⟩
  have k2 := fun o => L1 ⟨_, hsubA o⟩
  have k3 := fun o => L1 ⟨_, hsubB o⟩
  have d2 := c2 ⟨W1, Below.refl _ _⟩
  simp only [SubB.w] at e0 e1 k1 k2 k3 d2
  have hx1 : w.heap.size ≠ W1.heap.size := Nat.ne_of_lt hle
  have hx2 : g ≠ W1.heap.size := Nat.ne_of_lt hlg
  go_region
  have hb2 := hsubB (.cells #[.int .i64 x0, .int .i64 x1, .int .i64 x2, .int .i64 x3, .int .u32 x4] 50)
  clear hsubA hsubB hsubD e0 e1 k1 k2 k3 d2 hx1 hx2
  generalize (W1.alloc (.cells #[.int .i64 x0, .int .i64 x1, .int .i64 x2, .int .i64 x3, .int .u32 x4] 50)).drew = W2 at *
  have hl2 := hb2.size
  have hsubA : ∀ o, Below W1.heap.size W1 (W2.alloc o) := fun o => past hb2 (past_alloc (Below.refl _ _) o)
  have hsubB : ∀ o, Below W1.heap.size W1 (W2.alloc o).drew := fun o => past hb2 (past (past_alloc (Below.refl _ _) o) (below_drewN _ 1))
  have hsubD : Below W1.heap.size W1 W2.drew := past hb2 (below_drewN W2 1)
  have e1 := b1 ⟨W2, hb2⟩
  have k1 := L2 ⟨_, hsubD⟩
  have k2 := fun o => L2 ⟨_, hsubA o⟩
  have k3 := fun o => L2 ⟨_, hsubB o⟩
  have d2 := c2 ⟨W2, hb2⟩
  simp only [SubB.w] at e1 k1 k2 k3 d2
  have hx1 : w.heap.size ≠ W2.heap.size := Nat.ne_of_lt (Nat.lt_of_lt_of_le hle hl2)
  have hx2 : g ≠ W2.heap.size := Nat.ne_of_lt (Nat.lt_of_lt_of_le hlg hl2)
  have q2 := c2 ⟨_, hsubA (.cells #[] 102)⟩
  have q1 := b1 ⟨_, hsubA (.cells #[] 102)⟩
  simp only [SubB.w] at q1 q2
  go_wp2_with fail
  go_upto_region 2 with fail
  go_region
  have hb3 := hsubB (.cells #[] 102)
  clear hsubA hsubB hsubD e1 k1 k2 k3 d2 hx1 hx2 hl2 hb2 q1 q2
  generalize (W2.alloc (.cells #[] 102)).drew = W3 at *
  have d0 := c0 ⟨W3, hb3⟩
  have d1 := c1 ⟨W3, hb3⟩
  have d2 := c2 ⟨W3, hb3⟩
  have d3 := c3 ⟨W3, hb3⟩
  have d4 := c4 ⟨W3, hb3⟩
  have d5 := c5 ⟨W3, hb3⟩
  have d6 := c6 ⟨W3, hb3⟩
  have d7 := c7 ⟨W3, hb3⟩
  have M3 := Lib.hid (M1.out ⟨W3, hb3⟩)
  simp only [SubB.w] at d0 d1 d2 d3 d4 d5 d6 d7 M3
  unfold Ent.val str at M3
  simp only at M3
  go_wp2_with fail
  refine M3.out.mono ?_
  rintro en W4 ⟨rfl, hb4⟩
  have HB4 := Lib.hid (HU.out _ (past hb3 hb4)).1
  have d9 := (HU.out _ (past hb3 hb4)).2.1.c9
  have g0 := c0 ⟨W4, past hb3 hb4⟩
  have g1 := c1 ⟨W4, past hb3 hb4⟩
  simp only [SubB.w] at g0 g1
  clear d0 d1 d2 d3 d4 d5 d6 d7 c0 c1 c2 c3 c4 c5 c6 c7 b0 b1 L1 L2 M1 M3 HB HU hb3 hb4 hle hlg
  generalize m.la = la at *
  cases B1
  case false =>
    have HV : Hid (R = 1) := Lib.hid (by rw [HF.out]; rfl)
    clear HF
    go_wp2
    (try rw [Exit.noGoto_ret])
    go_ret
    exact ⟨by rw [HV.out]; rfl, HB4.out⟩
  by_cases k1 : kd = 1
  · subst k1
    cases BT
    case true =>
      have HV : Hid (R = 7) := Lib.hid (by rw [HF.out]; rfl)
      clear HF
      go_wp2
      (try rw [Exit.noGoto_ret])
      go_ret
      exact ⟨by rw [HV.out]; rfl, HB4.out⟩
    cases BG
    case true =>
      have HV : Hid (R = 7) := Lib.hid (by rw [HF.out]; rfl)
      clear HF
      go_wp2
      (try rw [Exit.noGoto_ret])
      go_ret
      exact ⟨by rw [HV.out]; rfl, HB4.out⟩
    by_cases q : vw < la
    · have HV : Hid (R = 12) := Lib.hid (by rw [HF.out]; simp [q])
      clear HF
      go_wp2_with fail
      go_upto_region 9 with fail
      go_quiet (fail)
      have HB5 := Lib.hid (past HB4.out (below_drewN W4 nq))
      clear d9 g0 g1
      generalize W4.drewN nq = W5 at *
      go_wp2
      (try rw [Exit.noGoto_ret])
      go_ret
      exact ⟨by rw [HV.out]; rfl, HB5.out⟩
    · have HV : Hid (R = 0) := Lib.hid (by rw [HF.out]; simp [q])
      clear HF
      go_wp2_with fail
      go_upto_region 9 with fail
      go_quiet (fail)
      have HB5 := Lib.hid (past HB4.out (below_drewN W4 nq))
      clear d9 g0 g1
      generalize W4.drewN nq = W5 at *
      go_wp2
      (try rw [Exit.noGoto_ret])
      go_ret
      exact ⟨by rw [HV.out]; rfl, HB5.out⟩
  by_cases k2 : kd = 2
  · subst k2
    clear k1
    cases BT
    case false =>
      have HV : Hid (R = 9) := Lib.hid (by rw [HF.out]; rfl)
      clear HF
      go_wp2
      (try rw [Exit.noGoto_ret])
      go_ret
      exact ⟨by rw [HV.out]; rfl, HB4.out⟩
    by_cases q : vw < la
    · have HV : Hid (R = 12) := Lib.hid (by rw [HF.out]; simp [q])
      clear HF
      go_wp2_with fail
      go_upto_region 9 with fail
      go_quiet (fail)
      have HB5 := Lib.hid (past HB4.out (below_drewN W4 nq))
      clear d9 g0 g1
      generalize W4.drewN nq = W5 at *
      go_wp2
      (try rw [Exit.noGoto_ret])
      go_ret
      exact ⟨by rw [HV.out]; rfl, HB5.out⟩
    · have HV : Hid (R = 0) := Lib.hid (by rw [HF.out]; simp [q])
      clear HF
      go_wp2_with fail
      go_upto_region 9 with fail
      go_quiet (fail)
      have HB5 := Lib.hid (past HB4.out (below_drewN W4 nq))
      clear d9 g0 g1
      generalize W4.drewN nq = W5 at *
      go_wp2
      (try rw [Exit.noGoto_ret])
      go_ret
      exact ⟨by rw [HV.out]; rfl, HB5.out⟩
  · have e1 : (kd == 1) = false := by simpa using k1
    have e2 : (kd == 2) = false := by simpa using k2
    by_cases q : vw < la
    · have HV : Hid (R = 12) := Lib.hid (by rw [HF.out]; simp [q, k1, k2])
      clear HF k1 k2
      go_wp2_with fail
      go_upto_region 9 with fail
      go_quiet (fail)
      have HB5 := Lib.hid (past HB4.out (below_drewN W4 nq))
      clear d9 g0 g1
      generalize W4.drewN nq = W5 at *
      go_wp2
      (try rw [Exit.noGoto_ret])
      go_ret
      exact ⟨by rw [HV.out]; rfl, HB5.out⟩
    · have HV : Hid (R = 0) := Lib.hid (by rw [HF.out]; simp [q, k1, k2])
      clear HF k1 k2
      go_wp2_with fail
      go_upto_region 9 with fail
      go_quiet (fail)
      have HB5 := Lib.hid (past HB4.out (below_drewN W4 nq))
      clear d9 g0 g1
      generalize W4.drewN nq = W5 at *
      go_wp2
      (try rw [Exit.noGoto_ret])
      go_ret
      exact ⟨by rw [HV.out]; rfl, HB5.out⟩
end Go.Proofs.YtdpoahjgdndnhaaDoor
