/-
  Entries as values; mayId, mayText, ownParts, May: what each returns at every argument; nothing that was there is written.
-/
import Derived.Test.YtdpoahjgdndnhaaDoorEMath
import Derived.Test.YtdpoahjgdndnhaaDoorCalm
import Derived.BigRegion
set_option maxRecDepth 100000
namespace Go.Proofs.YtdpoahjgdndnhaaDoor
open Go.RowKit
attribute [local go_sem ↓] Go.wp_at_zero Go.wp_at_succ
set_option linter.unusedVariables false

def Ent.val (e : Ent) : Value := .agg #[.int .i64 e.kd, .int .i64 e.vw, .int .i64 e.id, .int .i64 e.tr, .int .i64 e.fr, .int .i64 e.tl, .int .u32 e.sm, str e.tx]
def Ent.cells (e : Ent) : Array Value := #[.int .i64 e.kd, .int .i64 e.vw, .int .i64 e.id, .int .i64 e.tr, .int .i64 e.fr, .int .i64 e.tl, .int .u32 e.sm, str e.tx]

theorem str_inj {a b : List UInt8} : ((⟨a.toArray⟩ : ByteArray) = ⟨b.toArray⟩) ↔ a = b := by
  constructor
  · intro h
    have := congrArg (fun x : ByteArray => x.data.toList) h
    simpa using this
  · rintro rfl; rfl
/-- Entries that are unlike, by '!='. -/
theorem ent_neq (a d : Ent) (w : World) : (binOp .neq 25 a.val d.val).run Tryd.prog w = .ok (.bool (decide (a ≠ d))) w := by
  obtain ⟨a0, a1, a2, a3, a4, a5, a6, a7⟩ := a
  obtain ⟨d0, d1, d2, d3, d4, d5, d6, d7⟩ := d
  unfold Ent.val str
  go_simp
  by_cases h0 : a0 = d0
  case neg => simp [h0]
  by_cases h1 : a1 = d1
  case neg => simp [h1]
  by_cases h2 : a2 = d2
  case neg => simp [h2]
  by_cases h3 : a3 = d3
  case neg => simp [h3]
  by_cases h4 : a4 = d4
  case neg => simp [h4]
  by_cases h5 : a5 = d5
  case neg => simp [h5]
  by_cases h6 : a6 = d6
  case neg => simp [h6]
  by_cases h7 : a7 = d7
  · simp [h0, h1, h2, h3, h4, h5, h6, h7]
  · simp [h0, h1, h2, h3, h4, h5, h6, h7]
theorem ent_eql (a d : Ent) (w : World) : (binOp .eql 25 a.val d.val).run Tryd.prog w = .ok (.bool (decide (a = d))) w := by
  obtain ⟨a0, a1, a2, a3, a4, a5, a6, a7⟩ := a
  obtain ⟨d0, d1, d2, d3, d4, d5, d6, d7⟩ := d
  unfold Ent.val str
  go_simp
  by_cases h0 : a0 = d0
  case neg => simp [h0]
  by_cases h1 : a1 = d1
  case neg => simp [h1]
  by_cases h2 : a2 = d2
  case neg => simp [h2]
  by_cases h3 : a3 = d3
  case neg => simp [h3]
  by_cases h4 : a4 = d4
  case neg => simp [h4]
  by_cases h5 : a5 = d5
  case neg => simp [h5]
  by_cases h6 : a6 = d6
  case neg => simp [h6]
  by_cases h7 : a7 = d7
  · simp [h0, h1, h2, h3, h4, h5, h6, h7]
  · simp [h0, h1, h2, h3, h4, h5, h6, h7]

theorem mayId_any (i : Int) (w : World) : Calls Tryd.prog 57 #[.int .i64 i] w fun e w' => e = .returned (.bool (decide (idOk i))) ∧ w = w' := by
  by_cases h1 : i ≥ 1
  · by_cases h2 : i ≤ 1073741824
    · rw [show decide (idOk i) = true from decide_eq_true ⟨h1, h2⟩]
      go_enter Tryd.func57, Tryd.ntmps57
      go_wp2
      go_ret
      exact ⟨rfl, rfl⟩
    · rw [show decide (idOk i) = false from decide_eq_false (fun h => h2 h.2)]
      go_enter Tryd.func57, Tryd.ntmps57
      go_wp2
      go_ret
      exact ⟨rfl, rfl⟩
  · rw [show decide (idOk i) = false from decide_eq_false (fun h => h1 h.1)]
    go_enter Tryd.func57, Tryd.ntmps57
    go_wp2
    go_ret
    exact ⟨rfl, rfl⟩

theorem mayText_any (l : List UInt8) (w : World) (hl : l.length < 4611686018427387900) (hw : Nam w) (hn : 0 < w.heap.size) :
    Calls Tryd.prog 58 #[str l] w fun e w' => e = .returned (.bool (decide (textOk l))) ∧ Below w.heap.size w w' := by
  have M := Lib.hid (parse_any l w hl hw hn)
  obtain ⟨R, hR⟩ : ∃ R, R = decide (textOk l) := ⟨_, rfl⟩
  rw [← hR]
  have HR := Lib.hid hR
  obtain ⟨p, hp⟩ : ∃ p, p = parse l := ⟨_, rfl⟩
  rw [← hp] at M
  have HP := Lib.hid hp
  have hs : (⟨l.toArray⟩ : ByteArray).size = l.length := rfl
  by_cases h : l.length ≤ 300
  · have hx : ¬ (((l.length : Nat) : Int) > 300) := by omega
    obtain ⟨⟨a0, a1, a2, a3, cn, sp⟩, c, n⟩ := p
    have HC : Hid (R = (c == 0)) := Lib.hid (by
      rw [HR.out]
      have h2 : (parse l).2.1 = c := by rw [← HP.out]
      by_cases hc : c = 0
      · rw [decide_eq_true (show textOk l from ⟨h, h2.trans hc⟩)]; simp [hc]
      · rw [decide_eq_false (show ¬ textOk l from fun e => hc (h2.symm.trans e.2))]; simp [hc])
    unfold Pol.val str at *
    clear HP HR hR hp
    go_enter Tryd.func58, Tryd.ntmps58
    go_wp2_with fail
    refine M.out.mono ?_
    rintro e w2 ⟨rfl, hb⟩
    have HB := Lib.hid (past_alloc hb (.cells #[.int .i64 a0, .int .i64 a1, .int .i64 a2, .int .i64 a3, .int .i64 cn, .int .i64 sp] 39))
    clear hb M
    go_wp2
    go_ret
    exact ⟨by rw [HC.out]; rfl, HB.out⟩
  · have hx : ((l.length : Nat) : Int) > 300 := by omega
    have HC : Hid (R = false) := Lib.hid (by rw [HR.out]; exact decide_eq_false (fun e => h e.1))
    unfold str at *
    clear HP HR hR hp M
    go_enter Tryd.func58, Tryd.ntmps58
    go_wp2
    go_ret
    exact ⟨by rw [HC.out]; rfl, Below.refl _ _⟩

theorem below_agg {w wr : World} {B : Nat} (h : Below B w wr) (cs : Array Value) (T : TypeId) (hB : B ≤ wr.heap.size) : Below B w (wr.alloc (.cells cs T)) := h.alloc hB _

set_option maxHeartbeats 4000000 in
theorem ownParts_any (e : Ent) (w : World) : Calls Tryd.prog 56 #[e.val] w fun en w' => en = .returned e.own.val ∧ Below w.heap.size w w' := by
  obtain ⟨kd, vw, id, tr, fr, tl, sm, tx⟩ := e
  unfold Ent.val str
  by_cases h1 : kd = 1
  · have HO : Hid (Ent.own ⟨kd, vw, id, tr, fr, tl, sm, tx⟩ = ⟨1, vw, id, tr, fr, tl, sm, []⟩) := Lib.hid (if_pos h1)
    rw [HO.out]
    subst h1
    simp only
    generalize (⟨tx.toArray⟩ : ByteArray) = S
    go_enter Tryd.func56, Tryd.ntmps56
    go_wp2
    go_region
    go_wp2
    refine bodyPost_ret (v := .agg #[.int .i64 1, .int .i64 vw, .int .i64 id, .int .i64 tr, .int .i64 fr, .int .i64 tl, .int .u32 sm, .string ⟨#[]⟩]) ?_ rfl ⟨rfl, ?_⟩
    · simp [results, Tryd.results56, go_sem]
    · exact past (past_alloc (past_alloc (past_alloc (Below.refl _ _) _) _) _) (below_drewN _ 1)
  by_cases h2 : kd = 2
  · have HO : Hid (Ent.own ⟨kd, vw, id, tr, fr, tl, sm, tx⟩ = ⟨2, vw, id, 0, 0, 0, 0, []⟩) := Lib.hid (by unfold Ent.own; rw [if_neg (by simpa using h1), if_pos (by simpa using h2)])
    rw [HO.out]
    subst h2
    simp only
    generalize (⟨tx.toArray⟩ : ByteArray) = S
    clear h1
    go_enter Tryd.func56, Tryd.ntmps56
    go_wp2
    refine bodyPost_ret (v := .agg #[.int .i64 2, .int .i64 vw, .int .i64 id, .int .i64 0, .int .i64 0, .int .i64 0, .int .u32 0, .string ⟨#[]⟩]) ?_ rfl ⟨rfl, ?_⟩
    · simp [results, Tryd.results56, go_sem]
    · exact past_alloc (past_alloc (past_alloc (Below.refl _ _) _) _) _
  by_cases h4 : kd = 4
  · have HO : Hid (Ent.own ⟨kd, vw, id, tr, fr, tl, sm, tx⟩ = ⟨4, vw, 0, 0, 0, 0, 0, tx⟩) := Lib.hid (by unfold Ent.own; rw [if_neg (by simpa using h1), if_neg (by simpa using h2), if_pos (by simpa using h4)])
    rw [HO.out]
    subst h4
    simp only
    generalize (⟨tx.toArray⟩ : ByteArray) = S
    clear h1 h2
    go_enter Tryd.func56, Tryd.ntmps56
    go_wp2
    refine bodyPost_ret (v := .agg #[.int .i64 4, .int .i64 vw, .int .i64 0, .int .i64 0, .int .i64 0, .int .i64 0, .int .u32 0, .string S]) ?_ rfl ⟨rfl, ?_⟩
    · simp [results, Tryd.results56, go_sem]
    · exact past_alloc (past_alloc (past_alloc (Below.refl _ _) _) _) _
  · have HO : Hid (Ent.own ⟨kd, vw, id, tr, fr, tl, sm, tx⟩ = ⟨kd, vw, 0, 0, 0, 0, 0, []⟩) := Lib.hid (by unfold Ent.own; rw [if_neg (by simpa using h1), if_neg (by simpa using h2), if_neg (by simpa using h4)])
    rw [HO.out]
    have e1 : (kd == 1) = false := by simpa using h1
    have e2 : (kd == 2) = false := by simpa using h2
    have e4 : (kd == 4) = false := by simpa using h4
    simp only
    generalize (⟨tx.toArray⟩ : ByteArray) = S
    clear h1 h2 h4
    go_enter Tryd.func56, Tryd.ntmps56
    go_wp2
    refine bodyPost_ret (v := .agg #[.int .i64 kd, .int .i64 vw, .int .i64 0, .int .i64 0, .int .i64 0, .int .i64 0, .int .u32 0, .string ⟨#[]⟩]) ?_ rfl ⟨rfl, ?_⟩
    · simp [results, Tryd.results56, go_sem]
    · exact past_alloc (past_alloc (past_alloc (Below.refl _ _) _) _) _
end Go.Proofs.YtdpoahjgdndnhaaDoor
