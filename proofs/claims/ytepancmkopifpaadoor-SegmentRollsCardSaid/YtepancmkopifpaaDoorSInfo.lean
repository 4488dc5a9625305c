/-
  Info of bytes: what it returns; nothing that was there is written.
-/
import Derived.Test.YtepancmkopifpaaDoorSGetG
set_option maxRecDepth 100000
namespace Go.Proofs.YtepancmkopifpaaDoor
open Go.RowKit
attribute [local go_sem ↓] Go.wp_at_zero Go.wp_at_succ
set_option linter.unusedVariables false

/-- What Info returns. -/
def InfoG (w : World) (b : List Nat) (R : Option Sg) (e : Ending) (w' : World) : Prop :=
  (match R with
    | some s => e = .returned (.tuple #[.agg #[.int .i64 s.id, .int .i64 s.tier, .int .i64 s.fr, .int .i64 s.tz, .int .u32 (more 1 (b.take (b.length - 4)) : Nat)], .int .i64 0])
    | none => e = .returned (.tuple #[.agg #[.int .i64 0, .int .i64 0, .int .i64 0, .int .i64 0, .int .u32 0], .int .i64 2])) ∧ Below w.heap.size w w'
/-- A struct variable of five cells: an info's. -/
structure IfV (w : World) (g : Nat) (i k f t c : Int) : Prop where
  c0 : w.cell? ⟨g, 0, none⟩ = some (.int .i64 i)
  c1 : w.cell? ⟨g, 1, none⟩ = some (.int .i64 k)
  c2 : w.cell? ⟨g, 2, none⟩ = some (.int .i64 f)
  c3 : w.cell? ⟨g, 3, none⟩ = some (.int .i64 t)
  c4 : w.cell? ⟨g, 4, none⟩ = some (.int .u32 c)
  z0 : w.frozen? ⟨g, 0, none⟩ = false
  z1 : w.frozen? ⟨g, 1, none⟩ = false
  z2 : w.frozen? ⟨g, 2, none⟩ = false
  z3 : w.frozen? ⟨g, 3, none⟩ = false
  z4 : w.frozen? ⟨g, 4, none⟩ = false
theorem IfV.new (w : World) (i k f t c : Int) (ty : TypeId) : IfV (w.alloc (.cells #[.int .i64 i, .int .i64 k, .int .i64 f, .int .i64 t, .int .u32 c] ty)) w.heap.size i k f t c := by constructor <;> simp
theorem IfV.lt {w : World} {g : Nat} {i k f t c : Int} (h : IfV w g i k f t c) : g < w.heap.size := World.block_lt_of_cell? w _ h.c0
theorem IfV.below {w w' : World} {g : Nat} {i k f t c : Int} (h : IfV w g i k f t c) (hb : Below w.heap.size w w') : IfV w' g i k f t c := by
  have l := h.lt
  obtain ⟨c0, c1, c2, c3, c4, z0, z1, z2, z3, z4⟩ := h
  exact ⟨by rw [hb.cell l]; exact c0, by rw [hb.cell l]; exact c1, by rw [hb.cell l]; exact c2, by rw [hb.cell l]; exact c3, by rw [hb.cell l]; exact c4, by rw [hb.frozen l]; exact z0, by rw [hb.frozen l]; exact z1, by rw [hb.frozen l]; exact z2, by rw [hb.frozen l]; exact z3, by rw [hb.frozen l]; exact z4⟩
theorem below_set5 {w w5 : World} {g B : Nat} {a0 a1 a2 a3 a4 : Value} (h : Below B w w5) (hg : B ≤ g) :
    Below B w (((((w5.setCell ⟨g, 0, none⟩ a0).setCell ⟨g, 1, none⟩ a1).setCell ⟨g, 2, none⟩ a2).setCell ⟨g, 3, none⟩ a3).setCell ⟨g, 4, none⟩ a4) :=
  ((((h.setCell hg _).setCell hg _).setCell hg _).setCell hg _).setCell hg _

theorem four_set5 {w' : World} {gS g0 : Nat} {i k f t : Int} (u0 u1 u2 u3 u4 : Value) (hne : gS ≠ g0) (h : w'.cell? ⟨gS, 0, none⟩ = some (.int .i64 i) ∧ w'.cell? ⟨gS, 1, none⟩ = some (.int .i64 k) ∧ w'.cell? ⟨gS, 2, none⟩ = some (.int .i64 f) ∧ w'.cell? ⟨gS, 3, none⟩ = some (.int .i64 t)) :
    ((((((w'.setCell ⟨g0, 0, none⟩ u0).setCell ⟨g0, 1, none⟩ u1).setCell ⟨g0, 2, none⟩ u2).setCell ⟨g0, 3, none⟩ u3).setCell ⟨g0, 4, none⟩ u4).cell? ⟨gS, 0, none⟩ = some (.int .i64 i) ∧
    (((((w'.setCell ⟨g0, 0, none⟩ u0).setCell ⟨g0, 1, none⟩ u1).setCell ⟨g0, 2, none⟩ u2).setCell ⟨g0, 3, none⟩ u3).setCell ⟨g0, 4, none⟩ u4).cell? ⟨gS, 1, none⟩ = some (.int .i64 k) ∧
    (((((w'.setCell ⟨g0, 0, none⟩ u0).setCell ⟨g0, 1, none⟩ u1).setCell ⟨g0, 2, none⟩ u2).setCell ⟨g0, 3, none⟩ u3).setCell ⟨g0, 4, none⟩ u4).cell? ⟨gS, 2, none⟩ = some (.int .i64 f) ∧
    (((((w'.setCell ⟨g0, 0, none⟩ u0).setCell ⟨g0, 1, none⟩ u1).setCell ⟨g0, 2, none⟩ u2).setCell ⟨g0, 3, none⟩ u3).setCell ⟨g0, 4, none⟩ u4).cell? ⟨gS, 3, none⟩ = some (.int .i64 t)) := by
  have e : ∀ (w : World) (j l : Nat) (u : Value), (w.setCell ⟨g0, j, none⟩ u).cell? ⟨gS, l, none⟩ = w.cell? ⟨gS, l, none⟩ := fun w j l u => World.cell?_of_block (Below.heap_setCell _ _ _ _ hne)
  simp only [e]
  exact h

set_option maxHeartbeats 600000 in
theorem infoG_any {A : Option Addr} {n ca : Nat} {b : List Nat} {w : World} (h : BRow w A n ca b) (hw : Wid w) :
    Calls Tryd.prog 15 #[.slice A n ca] w (InfoG w b (readS b)) := by
  have hmax := h.max
  have hle := h.le
  unfold maxLen at hmax
  have m1 := fun u (hu : Below w.heap.size w u) => getG_any (h.below hu) (hw.below hu)
  have M1 := Lib.hid m1
  have HV0 := Lib.hid (IfV.new w 0 0 0 0 0 50)
  have HH := Lib.hid h
  have HL := Lib.hid h.len
  have H4 : Hid (∀ s, readS b = some s → 6 ≤ n) := Lib.hid (fun s e => by
    unfold readS at e
    split at e
    · cases e
    · rename_i hq
      have := h.len
      rcases Nat.lt_or_ge b.length 6 with h6 | h6
      · exact absurd (Or.inl h6) hq
      · omega)
  clear m1 h hw
  cases hR : readS b with
  | none =>
    rw [hR] at M1
    clear hmax hle hR H4
    go_enter Tryd.func15, Tryd.ntmps15
    go_wp2_with fail
    refine (M1.out _ (below_box _ _)).mono ?_
    rintro e w2 ⟨rfl, hb2⟩
    have HB2 := Lib.hid (past (below_box _ _) hb2)
    obtain ⟨d0, d1, d2, d3, d4, y0, y1, y2, y3, y4⟩ := (HV0.out.below hb2).below (below_box w2 (.cells #[.int .i64 0, .int .i64 0, .int .i64 0, .int .i64 0, .slice none 0 0, .slice none 0 0] 26))
    clear hb2
    go_wp2
    (try simp only [Exit.inBlock, Exit.then])
    refine bodyPost_ret (v := .tuple #[.agg #[.int .i64 0, .int .i64 0, .int .i64 0, .int .i64 0, .int .u32 0], .int .i64 2]) ?_ rfl ?_
    · rw [results_cell_tmp rfl]
      go_simp
    · exact ⟨rfl, below_set5 (past HB2.out (below_box _ _)) (Nat.le_refl _)⟩
  | some s =>
    rw [hR] at M1
    have h6 := H4.out s hR
    have hs1 := fun w => sliceB_hi (A := A) (n := n) (k := n - 4) (cap := ca) (by omega) w
    obtain ⟨K, hK⟩ : ∃ K, K = n - 4 := ⟨_, rfl⟩
    rw [← hK] at hs1
    have i0 : IntKind.i64.wrap ((n : Int) - 4) = (K : Int) := by rw [IntKind.wrap_i64]; omega
    have m2 : ∀ u, Below w.heap.size w u → _ := fun u hu => by
      have hr := (HH.out.below hu).take (show K ≤ n by omega)
      exact of_any hr.len hr.bytes hr.le hr.max
    have HK : Hid (b.take (b.length - 4) = b.take K) := Lib.hid (by rw [HL.out, hK])
    have M2 := Lib.hid m2
    obtain ⟨S, hS⟩ : ∃ S, more 1 (b.take K) = S := ⟨_, rfl⟩
    rw [hS] at M2
    have HS := Lib.hid hS
    obtain ⟨i, k, f, t, sm, ag⟩ := s
    clear hmax hle hR H4 hK h6 m2 hS
    go_enter Tryd.func15, Tryd.ntmps15
    go_wp2_with fail
    refine (M1.out _ (below_box _ _)).mono ?_
    rintro e w2 ⟨⟨A2, n2, ca2, B2, m2, cb2, rfl, hsg⟩, hb2⟩
    have HB2 := Lib.hid (past (past (below_box _ _) hb2) (below_box w2 (.cells #[.int .i64 i, .int .i64 k, .int .i64 f, .int .i64 t, .slice A2 n2 ca2, .slice B2 m2 cb2] 26)))
    have hS2 : w.heap.size < w2.heap.size := by have := hb2.size; simp at this; omega
    have HV2 := Lib.hid ((HV0.out.below hb2).below (below_box w2 (.cells #[.int .i64 i, .int .i64 k, .int .i64 f, .int .i64 t, .slice A2 n2 ca2, .slice B2 m2 cb2] 26)))
    have HG2 := Lib.hid (SgV.new w2 i k f t (.slice A2 n2 ca2) (.slice B2 m2 cb2) 26)
    have hne : w.heap.size ≠ w2.heap.size := Nat.ne_of_lt hS2
    have hne' : w2.heap.size ≠ w.heap.size := fun h => hne h.symm
    clear hb2 hsg hS2
    go_upto_region 4 with fail
    generalize hw3 : w2.alloc (.cells #[.int .i64 i, .int .i64 k, .int .i64 f, .int .i64 t, .slice A2 n2 ca2, .slice B2 m2 cb2] 26) = w3 at *
    obtain ⟨d0, d1, d2, d3, d4, y0, y1, y2, y3, y4⟩ := HV2.out
    obtain ⟨r0, r1, r2, r3, r4, r5, s0, s1, s2, s3, s4, s5⟩ := HG2.out
    clear hw3
    have HM3 : Hid (∀ m, Calls Tryd.prog 32 #[.slice A K ca] (w3.drewN m) fun e w' => e = .returned (.int .u32 (S : Int)) ∧ w3.drewN m = w') := Lib.hid (fun m => M2.out _ (past HB2.out (belowN _ _)))
    generalize hgS : w2.heap.size = gS at *
    generalize hg0 : w.heap.size = g0 at *
    have HG0 := Lib.hid hg0
    clear hgS hg0
    have HNE := Lib.hid hne'
    have HST : Hid (∀ m, (w3.drewN m).cell? ⟨gS, 0, none⟩ = some (.int .i64 i) ∧ (w3.drewN m).cell? ⟨gS, 1, none⟩ = some (.int .i64 k) ∧ (w3.drewN m).cell? ⟨gS, 2, none⟩ = some (.int .i64 f) ∧ (w3.drewN m).cell? ⟨gS, 3, none⟩ = some (.int .i64 t)) := Lib.hid (fun m => ⟨r0, r1, r2, r3⟩)
    have HSD : Hid (w3.drew.cell? ⟨gS, 0, none⟩ = some (.int .i64 i) ∧ w3.drew.cell? ⟨gS, 1, none⟩ = some (.int .i64 k) ∧ w3.drew.cell? ⟨gS, 2, none⟩ = some (.int .i64 f) ∧ w3.drew.cell? ⟨gS, 3, none⟩ = some (.int .i64 t)) := Lib.hid ⟨r0, r1, r2, r3⟩
    go_region_held3 (fun w' => w'.cell? ⟨gS, 0, none⟩ = some (.int .i64 i) ∧ w'.cell? ⟨gS, 1, none⟩ = some (.int .i64 k) ∧ w'.cell? ⟨gS, 2, none⟩ = some (.int .i64 f) ∧ w'.cell? ⟨gS, 3, none⟩ = some (.int .i64 t))
      (first
        | with_reducible exact HSD.out
        | with_reducible exact HST.out 1
        | with_reducible exact HST.out 0
        | (with_reducible refine four_set5 _ _ _ _ _ HNE.out ?_; first | with_reducible exact HSD.out | with_reducible exact HST.out 1))
      (first | (go_at_call 32; refine (HM3.out _).mono ?_; rintro e w5 ⟨rfl, rfl⟩))
    all_goals
      go_wp2
      (try simp only [Exit.inBlock, Exit.then])
      refine bodyPost_ret (v := .tuple #[.agg #[.int .i64 i, .int .i64 k, .int .i64 f, .int .i64 t, .int .u32 (S : Int)], .int .i64 0]) ?_ rfl ?_
      · rw [results_cell_tmp rfl]
        go_simp
      · have := HG0.out
        subst this
        refine ⟨?_, below_set5 (past HB2.out (belowN _ _)) (Nat.le_refl _)⟩
        rw [HK.out, HS.out]
end Go.Proofs.YtepancmkopifpaaDoor
