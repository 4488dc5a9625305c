/-
  The document's own MayEntry: of what adds a segment; nothing that was there is written.
  The document's own MayEntry: of a rule.
  The document's own MayEntry: of every entry; nothing that was there is written.
-/
import Derived.Test.YtdpoahjgdndnhaaDoorDParse
import Derived.Test.YtdpoahjgdndnhaaDoorEEqE
import Derived.BigRegion
import Derived.Test.YtdpoahjgdndnhaaDoorEMay
set_option maxRecDepth 100000
namespace Go.Proofs.YtdpoahjgdndnhaaDoor
open Go.RowKit
attribute [local go_sem ↓] Go.wp_at_zero Go.wp_at_succ
set_option linter.unusedVariables false

theorem dmay_says {e : Ent} (h1 : ¬ e.vw < 0) (h2 : ¬ e.vw > 1073741824) : decide e.may = (decide e.says && decide (e.own = e)) := by
  rw [← Bool.decide_and, decide_eq_decide]
  exact ⟨fun h => ⟨h.2.2, h.2.1.symm⟩, fun h => ⟨⟨by omega, by omega⟩, h.2.symm, h.1⟩⟩
def MayPost (w : World) (R : Bool) (en : Ending) (w' : World) : Prop := en = .returned (.bool R) ∧ Below w.heap.size w w'
set_option maxHeartbeats 8000000 in
theorem dmay_add (vw id tr fr tl sm : Int) (tx : List UInt8) (w : World) (R : Bool) (v0 : ¬ vw < 0) (v1 : ¬ vw > 1073741824)
    (hR : R = (decide (idOk id ∧ (0 ≤ tr ∧ tr < 4) ∧ 0 ≤ fr ∧ fr < tl ∧ tl ≤ 1099511627776) && decide ((⟨1, vw, id, tr, fr, tl, sm, []⟩ : Ent) = ⟨1, vw, id, tr, fr, tl, sm, tx⟩))) :
    Calls Tryd.prog 23 #[Ent.val ⟨1, vw, id, tr, fr, tl, sm, tx⟩] w (MayPost w R) := by
  have hq := ent_eql ⟨1, vw, id, tr, fr, tl, sm, []⟩ ⟨1, vw, id, tr, fr, tl, sm, tx⟩
  have HRR := Lib.hid hR
  have hcls : decide (idOk id ∧ (0 ≤ tr ∧ tr < 4) ∧ 0 ≤ fr ∧ fr < tl ∧ tl ≤ 1099511627776) = decide (¬ id < 1 ∧ ¬ id > 1073741824 ∧ ¬ tr < 0 ∧ ¬ tr > 3 ∧ ¬ fr < 0 ∧ ¬ fr ≥ tl ∧ ¬ tl > 1099511627776) := by
    rw [decide_eq_decide]
    unfold idOk
    omega
  rw [hcls] at hR
  obtain ⟨D, hD⟩ : ∃ D, D = decide ((⟨1, vw, id, tr, fr, tl, sm, []⟩ : Ent) = ⟨1, vw, id, tr, fr, tl, sm, tx⟩) := ⟨_, rfl⟩
  rw [← hD] at hq hR
  have HR := Lib.hid hR
  have HB : Hid (∀ u : World, (∃ k o1 o2, u = ((w.alloc o1).alloc o2).drewN k) → Below w.heap.size w u) := Lib.hid (fun u ⟨k, o1, o2, e⟩ => by
    rw [e]
    exact past (past_alloc (past_alloc (Below.refl _ _) _) _) (below_drewN _ k))
  clear hR hD HRR hcls
  unfold Ent.val str at *
  simp only at *
  generalize (⟨tx.toArray⟩ : ByteArray) = S at *
  go_enter Tryd.func23, Tryd.ntmps23
  go_upto_region 7 with fail
  go_region
  by_cases q0 : id < 1
  · have HV : Hid (R = false) := Lib.hid (by rw [HR.out, decide_eq_false (by omega)]; rfl)
    go_wp2
    (try rw [Exit.noGoto_ret])
    go_ret
    exact ⟨by rw [HV.out]; rfl, HB.out _ ⟨1, _, _, rfl⟩⟩
  by_cases q1 : id > 1073741824
  · have HV : Hid (R = false) := Lib.hid (by rw [HR.out, decide_eq_false (by omega)]; rfl)
    go_wp2
    (try rw [Exit.noGoto_ret])
    go_ret
    exact ⟨by rw [HV.out]; rfl, HB.out _ ⟨1, _, _, rfl⟩⟩
  by_cases q2 : tr < 0
  · have HV : Hid (R = false) := Lib.hid (by rw [HR.out, decide_eq_false (by omega)]; rfl)
    go_wp2
    (try rw [Exit.noGoto_ret])
    go_ret
    exact ⟨by rw [HV.out]; rfl, HB.out _ ⟨1, _, _, rfl⟩⟩
  by_cases q3 : tr > 3
  · have HV : Hid (R = false) := Lib.hid (by rw [HR.out, decide_eq_false (by omega)]; rfl)
    go_wp2
    (try rw [Exit.noGoto_ret])
    go_ret
    exact ⟨by rw [HV.out]; rfl, HB.out _ ⟨1, _, _, rfl⟩⟩
  by_cases q4 : fr < 0
  · have HV : Hid (R = false) := Lib.hid (by rw [HR.out, decide_eq_false (by omega)]; rfl)
    go_wp2
    (try rw [Exit.noGoto_ret])
    go_ret
    exact ⟨by rw [HV.out]; rfl, HB.out _ ⟨1, _, _, rfl⟩⟩
  by_cases q5 : fr ≥ tl
  · have HV : Hid (R = false) := Lib.hid (by rw [HR.out, decide_eq_false (by omega)]; rfl)
    go_wp2
    (try rw [Exit.noGoto_ret])
    go_ret
    exact ⟨by rw [HV.out]; rfl, HB.out _ ⟨1, _, _, rfl⟩⟩
  by_cases q6 : tl > 1099511627776
  · have HV : Hid (R = false) := Lib.hid (by rw [HR.out, decide_eq_false (by omega)]; rfl)
    go_wp2
    (try rw [Exit.noGoto_ret])
    go_ret
    exact ⟨by rw [HV.out]; rfl, HB.out _ ⟨1, _, _, rfl⟩⟩
  have HV : Hid (R = D) := Lib.hid (by rw [HR.out, decide_eq_true (by omega)]; rfl)
  go_wp2
  (try rw [Exit.noGoto_ret])
  go_ret
  exact ⟨by rw [HV.out]; rfl, HB.out _ ⟨1, _, _, rfl⟩⟩
end Go.Proofs.YtdpoahjgdndnhaaDoor
set_option maxRecDepth 100000
namespace Go.Proofs.YtdpoahjgdndnhaaDoor
open Go.RowKit
attribute [local go_sem ↓] Go.wp_at_zero Go.wp_at_succ
set_option linter.unusedVariables false

theorem keeps_alloc {w : World} {a : Addr} {v : Value} (h : w.cell? a = some v) (o : Obj) : (w.alloc o).cell? a = some v := by
  rw [World.cell?_alloc_some _ _ _ (by rw [h]; rfl)]
  exact h
set_option maxHeartbeats 8000000 in
theorem dmay_rule (vw id tr fr tl sm : Int) (tx : List UInt8) (w : World) (R : Bool) (v0 : ¬ vw < 0) (v1 : ¬ vw > 1073741824) (ht : tx.length ≤ 1000000)
    (h2 : R = (decide (textOk tx) && decide ((⟨4, vw, 0, 0, 0, 0, 0, tx⟩ : Ent) = ⟨4, vw, id, tr, fr, tl, sm, tx⟩))) :
    Calls Tryd.prog 23 #[Ent.val ⟨4, vw, id, tr, fr, tl, sm, tx⟩] w fun en w' => en = .returned (.bool R) ∧ Below w.heap.size w w' := by
  have hq := ent_eql ⟨4, vw, 0, 0, 0, 0, 0, tx⟩ ⟨4, vw, id, tr, fr, tl, sm, tx⟩
  obtain ⟨D, hD⟩ : ∃ D, D = decide ((⟨4, vw, 0, 0, 0, 0, 0, tx⟩ : Ent) = ⟨4, vw, id, tr, fr, tl, sm, tx⟩) := ⟨_, rfl⟩
  rw [← hD] at hq h2
  obtain ⟨r, hr⟩ : ∃ r, r = parse tx := ⟨_, rfl⟩
  have hto : textOk tx ↔ tx.length ≤ 300 ∧ r.2.1 = 0 := by unfold textOk; rw [hr]
  have m := fun u => dparse_any tx u ht
  rw [← hr] at m
  obtain ⟨⟨a0, a1, a2, a3, cn, sp⟩, c, n⟩ := r
  simp only at hto
  have HR : Hid (R = (decide (tx.length ≤ 300 ∧ c = 0) && D)) := Lib.hid (by rw [h2, decide_eq_decide.2 hto])
  have hsz : (⟨tx.toArray⟩ : ByteArray).size = tx.length := rfl
  unfold Pol.val at m
  clear h2 hD hr hto
  unfold Ent.val str at *
  simp only at m hq ⊢
  have M := Lib.hid m
  generalize (⟨tx.toArray⟩ : ByteArray) = S at *
  have EC : Hid (∀ o1 o2 u, Below ((w.alloc o1).alloc o2).heap.size ((w.alloc o1).alloc o2) u → ∀ o3, Below w.heap.size w (u.alloc o3)) := Lib.hid (fun o1 o2 u hu o3 => past_alloc (past (past_alloc (past_alloc (Below.refl _ _) _) _) hu) _)
  have HCE : Hid (∀ (c1 c2 : Array Value) t1 t2 u, Below ((w.alloc (.cells c1 t1)).alloc (.cells c2 t2)).heap.size ((w.alloc (.cells c1 t1)).alloc (.cells c2 t2)) u →
      ∀ i, u.cell? ⟨w.heap.size, i, none⟩ = c1[i]? ∧ u.cell? ⟨w.heap.size + 1, i, none⟩ = c2[i]?) := Lib.hid (fun c1 c2 t1 t2 u hu i => by
    refine ⟨?_, ?_⟩
    · rw [hu.cell (by simp; omega)]
      simp
    · rw [hu.cell (by simp)]
      simp)
  clear m
  go_enter Tryd.func23, Tryd.ntmps23
  go_wp2_with fail
  refine (M.out _).mono ?_
  rintro e w2 ⟨rfl, hb⟩
  have hc := HCE.out _ _ _ _ _ hb
  have e0 : w2.cell? ⟨w.heap.size, 0, none⟩ = some (.int .i64 4) := (hc 0).1
  have e1 : w2.cell? ⟨w.heap.size, 1, none⟩ = some (.int .i64 vw) := (hc 1).1
  have e2 : w2.cell? ⟨w.heap.size, 2, none⟩ = some (.int .i64 id) := (hc 2).1
  have e3 : w2.cell? ⟨w.heap.size, 3, none⟩ = some (.int .i64 tr) := (hc 3).1
  have e4 : w2.cell? ⟨w.heap.size, 4, none⟩ = some (.int .i64 fr) := (hc 4).1
  have e5 : w2.cell? ⟨w.heap.size, 5, none⟩ = some (.int .i64 tl) := (hc 5).1
  have e6 : w2.cell? ⟨w.heap.size, 6, none⟩ = some (.int .u32 sm) := (hc 6).1
  have e7 : w2.cell? ⟨w.heap.size, 7, none⟩ = some (.string S) := (hc 7).1
  have x0 : w2.cell? ⟨w.heap.size + 1, 0, none⟩ = some (.int .i64 4) := (hc 0).2
  have x1 : w2.cell? ⟨w.heap.size + 1, 1, none⟩ = some (.int .i64 vw) := (hc 1).2
  have x2 : w2.cell? ⟨w.heap.size + 1, 2, none⟩ = some (.int .i64 0) := (hc 2).2
  have x3 : w2.cell? ⟨w.heap.size + 1, 3, none⟩ = some (.int .i64 0) := (hc 3).2
  have x4 : w2.cell? ⟨w.heap.size + 1, 4, none⟩ = some (.int .i64 0) := (hc 4).2
  have x5 : w2.cell? ⟨w.heap.size + 1, 5, none⟩ = some (.int .i64 0) := (hc 5).2
  have x6 : w2.cell? ⟨w.heap.size + 1, 6, none⟩ = some (.int .u32 0) := (hc 6).2
  have x7 : w2.cell? ⟨w.heap.size + 1, 7, none⟩ = some (.string S) := (hc 7).2
  have f0 := keeps_alloc e0 (.cells #[.int .i64 a0, .int .i64 a1, .int .i64 a2, .int .i64 a3, .int .i64 cn, .int .i64 sp] 39)
  have f1 := keeps_alloc e1 (.cells #[.int .i64 a0, .int .i64 a1, .int .i64 a2, .int .i64 a3, .int .i64 cn, .int .i64 sp] 39)
  have f2 := keeps_alloc e2 (.cells #[.int .i64 a0, .int .i64 a1, .int .i64 a2, .int .i64 a3, .int .i64 cn, .int .i64 sp] 39)
  have f3 := keeps_alloc e3 (.cells #[.int .i64 a0, .int .i64 a1, .int .i64 a2, .int .i64 a3, .int .i64 cn, .int .i64 sp] 39)
  have f4 := keeps_alloc e4 (.cells #[.int .i64 a0, .int .i64 a1, .int .i64 a2, .int .i64 a3, .int .i64 cn, .int .i64 sp] 39)
  have f5 := keeps_alloc e5 (.cells #[.int .i64 a0, .int .i64 a1, .int .i64 a2, .int .i64 a3, .int .i64 cn, .int .i64 sp] 39)
  have f6 := keeps_alloc e6 (.cells #[.int .i64 a0, .int .i64 a1, .int .i64 a2, .int .i64 a3, .int .i64 cn, .int .i64 sp] 39)
  have f7 := keeps_alloc e7 (.cells #[.int .i64 a0, .int .i64 a1, .int .i64 a2, .int .i64 a3, .int .i64 cn, .int .i64 sp] 39)
  have y0 := keeps_alloc x0 (.cells #[.int .i64 a0, .int .i64 a1, .int .i64 a2, .int .i64 a3, .int .i64 cn, .int .i64 sp] 39)
  have y1 := keeps_alloc x1 (.cells #[.int .i64 a0, .int .i64 a1, .int .i64 a2, .int .i64 a3, .int .i64 cn, .int .i64 sp] 39)
  have y2 := keeps_alloc x2 (.cells #[.int .i64 a0, .int .i64 a1, .int .i64 a2, .int .i64 a3, .int .i64 cn, .int .i64 sp] 39)
  have y3 := keeps_alloc x3 (.cells #[.int .i64 a0, .int .i64 a1, .int .i64 a2, .int .i64 a3, .int .i64 cn, .int .i64 sp] 39)
  have y4 := keeps_alloc x4 (.cells #[.int .i64 a0, .int .i64 a1, .int .i64 a2, .int .i64 a3, .int .i64 cn, .int .i64 sp] 39)
  have y5 := keeps_alloc x5 (.cells #[.int .i64 a0, .int .i64 a1, .int .i64 a2, .int .i64 a3, .int .i64 cn, .int .i64 sp] 39)
  have y6 := keeps_alloc x6 (.cells #[.int .i64 a0, .int .i64 a1, .int .i64 a2, .int .i64 a3, .int .i64 cn, .int .i64 sp] 39)
  have y7 := keeps_alloc x7 (.cells #[.int .i64 a0, .int .i64 a1, .int .i64 a2, .int .i64 a3, .int .i64 cn, .int .i64 sp] 39)
  have EB := Lib.hid (EC.out _ _ _ hb)
  clear hc hb HCE EC M
  by_cases hc0 : c = 0
  case neg =>
    have HV : Hid (R = false) := Lib.hid (by rw [HR.out, decide_eq_false (fun h => hc0 h.2)]; rfl)
    have c1 : (c != 0) = true := by simpa using hc0
    go_wp2
    (try rw [Exit.noGoto_ret])
    go_ret
    exact ⟨by rw [HV.out]; rfl, EB.out _⟩
  have c0b : (c != 0) = false := by simpa using hc0
  by_cases hl : tx.length ≤ 300
  case neg =>
    have HV : Hid (R = false) := Lib.hid (by rw [HR.out, decide_eq_false (fun h => hl h.1)]; rfl)
    have c1 : (S.size : Int) > 300 := by omega
    go_wp2
    (try rw [Exit.noGoto_ret])
    go_ret
    exact ⟨by rw [HV.out]; rfl, EB.out _⟩
  have HV : Hid (R = D) := Lib.hid (by rw [HR.out, decide_eq_true ⟨hl, hc0⟩]; rfl)
  have c1 : ¬ (S.size : Int) > 300 := by omega
  go_wp2
  (try rw [Exit.noGoto_ret])
  go_ret
  exact ⟨by rw [HV.out]; rfl, EB.out _⟩
end Go.Proofs.YtdpoahjgdndnhaaDoor
set_option maxRecDepth 100000
namespace Go.Proofs.YtdpoahjgdndnhaaDoor
open Go.RowKit
attribute [local go_sem ↓] Go.wp_at_zero Go.wp_at_succ
set_option linter.unusedVariables false

set_option maxHeartbeats 8000000 in
theorem dmay_any (e : Ent) (w : World) (ht : e.tx.length ≤ 1000000) :
    Calls Tryd.prog 23 #[e.val] w (MayPost w (decide e.may)) := by
  obtain ⟨R, hR⟩ : ∃ R, R = decide e.may := ⟨_, rfl⟩
  rw [← hR]
  obtain ⟨kd, vw, id, tr, fr, tl, sm, tx⟩ := e
  have HB : Hid (∀ u : World, (∃ k o1 o2, u = ((w.alloc o1).alloc o2).drewN k) → Below w.heap.size w u) := Lib.hid (fun u ⟨k, o1, o2, e⟩ => by
    rw [e]
    exact past (past_alloc (past_alloc (Below.refl _ _) _) _) (below_drewN _ k))
  have HB1 : Hid (∀ o1, Below w.heap.size w (w.alloc o1)) := Lib.hid (fun o1 => past_alloc (Below.refl _ _) _)
  by_cases v0 : vw < 0
  · have HV : Hid (R = false) := Lib.hid (hR.trans (may_not (.inl v0)))
    unfold Ent.val str
    simp only
    generalize (⟨tx.toArray⟩ : ByteArray) = S at *
    clear hR
    go_enter Tryd.func23, Tryd.ntmps23
    go_wp2
    (try rw [Exit.noGoto_ret])
    go_ret
    exact ⟨by rw [HV.out]; rfl, HB1.out _⟩
  by_cases v1 : vw > 1073741824
  · have HV : Hid (R = false) := Lib.hid (hR.trans (may_not (.inr (.inl v1))))
    unfold Ent.val str
    simp only
    generalize (⟨tx.toArray⟩ : ByteArray) = S at *
    clear hR
    go_enter Tryd.func23, Tryd.ntmps23
    go_wp2
    (try rw [Exit.noGoto_ret])
    go_ret
    exact ⟨by rw [HV.out]; rfl, HB1.out _⟩
  rw [dmay_says v0 v1] at hR
  unfold Ent.says Ent.own at hR
  simp only at hR
  by_cases k1 : kd = 1
  · subst k1
    exact dmay_add vw id tr fr tl sm tx w R v0 v1 hR
  by_cases k2 : kd = 2
  · subst k2
    have hq := ent_eql ⟨2, vw, id, 0, 0, 0, 0, []⟩ ⟨2, vw, id, tr, fr, tl, sm, tx⟩
    have h2 : R = (decide (idOk id) && decide ((⟨2, vw, id, 0, 0, 0, 0, []⟩ : Ent) = ⟨2, vw, id, tr, fr, tl, sm, tx⟩)) := hR
    have hcls : decide (idOk id) = decide (¬ id < 1 ∧ ¬ id > 1073741824) := by
      rw [decide_eq_decide]
      unfold idOk
      omega
    rw [hcls] at h2
    obtain ⟨D, hD⟩ : ∃ D, D = decide ((⟨2, vw, id, 0, 0, 0, 0, []⟩ : Ent) = ⟨2, vw, id, tr, fr, tl, sm, tx⟩) := ⟨_, rfl⟩
    rw [← hD] at hq h2
    have HR := Lib.hid h2
    clear hR h2 hD hcls k1
    unfold Ent.val str at *
    simp only at *
    generalize (⟨tx.toArray⟩ : ByteArray) = S at *
    by_cases q0 : id < 1
    · have HV : Hid (R = false) := Lib.hid (by rw [HR.out, decide_eq_false (by omega)]; rfl)
      go_enter Tryd.func23, Tryd.ntmps23
      go_wp2
      (try rw [Exit.noGoto_ret])
      go_ret
      exact ⟨by rw [HV.out]; rfl, HB.out _ ⟨0, _, _, rfl⟩⟩
    by_cases q1 : id > 1073741824
    · have HV : Hid (R = false) := Lib.hid (by rw [HR.out, decide_eq_false (by omega)]; rfl)
      go_enter Tryd.func23, Tryd.ntmps23
      go_wp2
      (try rw [Exit.noGoto_ret])
      go_ret
      exact ⟨by rw [HV.out]; rfl, HB.out _ ⟨0, _, _, rfl⟩⟩
    have HV : Hid (R = D) := Lib.hid (by rw [HR.out, decide_eq_true (by omega)]; rfl)
    go_enter Tryd.func23, Tryd.ntmps23
    go_wp2
    (try rw [Exit.noGoto_ret])
    go_ret
    exact ⟨by rw [HV.out]; rfl, HB.out _ ⟨0, _, _, rfl⟩⟩
  by_cases k3 : kd = 3
  · subst k3
    have hq := ent_eql ⟨3, vw, 0, 0, 0, 0, 0, []⟩ ⟨3, vw, id, tr, fr, tl, sm, tx⟩
    have h2 : R = (decide (0 < vw) && decide ((⟨3, vw, 0, 0, 0, 0, 0, []⟩ : Ent) = ⟨3, vw, id, tr, fr, tl, sm, tx⟩)) := hR
    obtain ⟨D, hD⟩ : ∃ D, D = decide ((⟨3, vw, 0, 0, 0, 0, 0, []⟩ : Ent) = ⟨3, vw, id, tr, fr, tl, sm, tx⟩) := ⟨_, rfl⟩
    rw [← hD] at hq h2
    have HR := Lib.hid h2
    clear hR h2 hD k1 k2
    unfold Ent.val str at *
    simp only at *
    generalize (⟨tx.toArray⟩ : ByteArray) = S at *
    by_cases q0 : vw < 1
    · have HV : Hid (R = false) := Lib.hid (by rw [HR.out, decide_eq_false (by omega)]; rfl)
      go_enter Tryd.func23, Tryd.ntmps23
      go_wp2
      (try rw [Exit.noGoto_ret])
      go_ret
      exact ⟨by rw [HV.out]; rfl, HB.out _ ⟨0, _, _, rfl⟩⟩
    have HV : Hid (R = D) := Lib.hid (by rw [HR.out, decide_eq_true (by omega)]; rfl)
    go_enter Tryd.func23, Tryd.ntmps23
    go_wp2
    (try rw [Exit.noGoto_ret])
    go_ret
    exact ⟨by rw [HV.out]; rfl, HB.out _ ⟨0, _, _, rfl⟩⟩
  by_cases k4 : kd = 4
  · subst k4
    exact dmay_rule vw id tr fr tl sm tx w R v0 v1 ht hR
  · have HV : Hid (R = false) := Lib.hid (by rw [hR]; simp [k1, k2, k3, k4])
    have e1 : (kd == 1) = false := by simpa using k1
    have e2 : (kd == 2) = false := by simpa using k2
    have e3 : (kd == 3) = false := by simpa using k3
    have e4 : (kd == 4) = false := by simpa using k4
    clear hR k1 k2 k3 k4
    unfold Ent.val str
    simp only
    generalize (⟨tx.toArray⟩ : ByteArray) = S at *
    go_enter Tryd.func23, Tryd.ntmps23
    go_wp2
    (try rw [Exit.noGoto_ret])
    go_ret
    exact ⟨by rw [HV.out]; rfl, HB.out _ ⟨0, _, _, rfl⟩⟩
end Go.Proofs.YtdpoahjgdndnhaaDoor
