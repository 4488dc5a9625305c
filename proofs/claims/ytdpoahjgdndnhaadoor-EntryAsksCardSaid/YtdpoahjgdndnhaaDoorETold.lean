/-
  told: what the law asks of a few.
-/
import Derived.Test.YtdpoahjgdndnhaaDoorEGetE
import Derived.Test.YtdpoahjgdndnhaaDoorEEq
set_option maxRecDepth 100000
namespace Go.Proofs.YtdpoahjgdndnhaaDoor
open Go.RowKit
attribute [local go_sem ↓] Go.wp_at_zero Go.wp_at_succ
set_option linter.unusedVariables false

def aT : Ent := ⟨1, 1, 3, 0, 0, 9, 77, []⟩
def dT : Ent := ⟨2, 2, 3, 0, 0, 0, 0, []⟩
def vT : Ent := ⟨3, 2, 0, 0, 0, 0, 0, []⟩
theorem fold_av : fold [aT, vT] = ([⟨3, 0, 0, 9, 77⟩], Pol.dflt, 2, 0) := by decide
theorem fold_ada : fold [aT, dT, aT] = ([], Pol.zero, 0, 7) := by decide
theorem fold_d : fold [dT] = ([], Pol.zero, 0, 9) := by decide
theorem fold_da : fold [dT, aT] = ([], Pol.zero, 0, 9) := by decide
theorem fold_va : fold [vT, aT] = ([], Pol.zero, 0, 12) := by decide
theorem may_aT : aT.may := by decide
theorem ok_aT : aT.ok := by decide
theorem ok_dT : dT.ok := by decide
theorem ok_vT : vT.ok := by decide

theorem ev_a {u : World} {g : Nat} (h : EV u g aT) : u.cell? ⟨g, 0, none⟩ = some (.int .i64 1) ∧ u.cell? ⟨g, 1, none⟩ = some (.int .i64 1) ∧ u.cell? ⟨g, 2, none⟩ = some (.int .i64 3) ∧ u.cell? ⟨g, 3, none⟩ = some (.int .i64 0) ∧ u.cell? ⟨g, 4, none⟩ = some (.int .i64 0) ∧ u.cell? ⟨g, 5, none⟩ = some (.int .i64 9) ∧ u.cell? ⟨g, 6, none⟩ = some (.int .u32 77) ∧ u.cell? ⟨g, 7, none⟩ = some (.string ⟨#[]⟩) := ⟨h.c0, h.c1, h.c2, h.c3, h.c4, h.c5, h.c6, h.c7⟩
theorem ev_d {u : World} {g : Nat} (h : EV u g dT) : u.cell? ⟨g, 0, none⟩ = some (.int .i64 2) ∧ u.cell? ⟨g, 1, none⟩ = some (.int .i64 2) ∧ u.cell? ⟨g, 2, none⟩ = some (.int .i64 3) ∧ u.cell? ⟨g, 3, none⟩ = some (.int .i64 0) ∧ u.cell? ⟨g, 4, none⟩ = some (.int .i64 0) ∧ u.cell? ⟨g, 5, none⟩ = some (.int .i64 0) ∧ u.cell? ⟨g, 6, none⟩ = some (.int .u32 0) ∧ u.cell? ⟨g, 7, none⟩ = some (.string ⟨#[]⟩) := ⟨h.c0, h.c1, h.c2, h.c3, h.c4, h.c5, h.c6, h.c7⟩
theorem len_aT : aT.bytes.length = 7 := by
  simp [Ent.bytes, Ent.nums, numsB, textB, aT, enc]
theorem putA (u : World) (hw : Nam u) (h0 : 0 < u.heap.size) : Calls Tryd.prog 14 #[.agg #[.int .i64 1, .int .i64 1, .int .i64 3, .int .i64 0, .int .i64 0, .int .i64 9, .int .u32 77, .string ⟨#[]⟩]] u fun e w' => ∃ (A : Option Addr) (cap : Nat), e = .returned (.tuple #[.slice A 7 cap, .int .i64 0]) ∧ BRow w' A 7 cap aT.bytes ∧ Below u.heap.size u w' := by
  have h := put_ent aT u ok_aT hw h0
  have hp : aT.put = (aT.bytes, 0) := by unfold Ent.put; rw [if_pos may_aT]
  rw [hp] at h
  refine h.mono ?_
  rintro e w' ⟨A, cap, he, hr, hb, _⟩
  simp only [len_aT] at he hr
  exact ⟨A, cap, he, hr, hb⟩
theorem getA {A : Option Addr} {cap : Nat} {u : World} (h : BRow u A 7 cap aT.bytes) (hw : Nam u) (h0 : 0 < u.heap.size) : Calls Tryd.prog 16 #[.slice A 7 cap] u fun e w' => e = .returned (.tuple #[.agg #[.int .i64 1, .int .i64 1, .int .i64 3, .int .i64 0, .int .i64 0, .int .i64 9, .int .u32 77, .string ⟨#[]⟩], .int .i64 0]) ∧ Below u.heap.size u w' := by
  have h := get_ent h (by omega) hw h0
  unfold GetEPost at h
  rw [get_bytes may_aT ok_aT] at h
  exact h

theorem row_av (u : World) : EntRow (u.alloc (.cells #[.int .i64 1, .int .i64 1, .int .i64 3, .int .i64 0, .int .i64 0, .int .i64 9, .int .u32 77, .string ⟨#[]⟩, .int .i64 3, .int .i64 2, .int .i64 0, .int .i64 0, .int .i64 0, .int .i64 0, .int .u32 0, .string ⟨#[]⟩] 25)) (some ⟨u.heap.size, 0, none⟩) 2 2 [aT, vT] := by
  refine ⟨rfl, Nat.le_refl _, by unfold maxLen; omega, fun h => (by cases h), fun e he => ?_, fun _ => ⟨u.heap.size, 0, rfl, by simp, fun j hj => ?_⟩⟩
  · simp only [List.mem_cons, List.not_mem_nil, or_false] at he
    rcases he with rfl | rfl <;> first | exact ok_aT | exact ok_dT | exact ok_vT
  · match j, hj with
    | 0, _ => exact ⟨by simp [aT], by simp [aT], by simp [aT], by simp [aT], by simp [aT], by simp [aT], by simp [aT], by simp [aT, str]⟩
    | 1, _ => exact ⟨by simp [vT], by simp [vT], by simp [vT], by simp [vT], by simp [vT], by simp [vT], by simp [vT], by simp [vT, str]⟩
theorem foldC_av (u : World) (hw : Nam u) (h0 : 0 < u.heap.size) : Calls Tryd.prog 18 #[.slice (some ⟨u.heap.size, 0, none⟩) 2 2] (u.alloc (.cells #[.int .i64 1, .int .i64 1, .int .i64 3, .int .i64 0, .int .i64 0, .int .i64 9, .int .u32 77, .string ⟨#[]⟩, .int .i64 3, .int .i64 2, .int .i64 0, .int .i64 0, .int .i64 0, .int .i64 0, .int .u32 0, .string ⟨#[]⟩] 25)) fun e w' => ∃ (A' : Option Addr) (cap' : Nat), e = .returned (.tuple #[.slice A' 1 cap', .agg #[.int .i64 60, .int .i64 600, .int .i64 6000, .int .i64 0, .int .i64 8, .int .i64 30], .int .i64 2, .int .i64 0]) ∧ InfRow w' A' 1 cap' [⟨3, 0, 0, 9, 77⟩] ∧ Below u.heap.size u w' := by
  have hb : Below u.heap.size u (u.alloc (.cells #[.int .i64 1, .int .i64 1, .int .i64 3, .int .i64 0, .int .i64 0, .int .i64 9, .int .u32 77, .string ⟨#[]⟩, .int .i64 3, .int .i64 2, .int .i64 0, .int .i64 0, .int .i64 0, .int .i64 0, .int .u32 0, .string ⟨#[]⟩] 25)) := below_box _ _
  have h := fold_in (row_av u) (by omega) (hw.below h0 hb) (Nat.lt_of_lt_of_le h0 hb.size)
  rw [fold_av] at h
  refine h.mono ?_
  rintro e w' ⟨A', cap', he, hr, hbb⟩
  exact ⟨A', cap', he, hr, past hb hbb⟩
theorem row_ada (u : World) : EntRow (u.alloc (.cells #[.int .i64 1, .int .i64 1, .int .i64 3, .int .i64 0, .int .i64 0, .int .i64 9, .int .u32 77, .string ⟨#[]⟩, .int .i64 2, .int .i64 2, .int .i64 3, .int .i64 0, .int .i64 0, .int .i64 0, .int .u32 0, .string ⟨#[]⟩, .int .i64 1, .int .i64 1, .int .i64 3, .int .i64 0, .int .i64 0, .int .i64 9, .int .u32 77, .string ⟨#[]⟩] 25)) (some ⟨u.heap.size, 0, none⟩) 3 3 [aT, dT, aT] := by
  refine ⟨rfl, Nat.le_refl _, by unfold maxLen; omega, fun h => (by cases h), fun e he => ?_, fun _ => ⟨u.heap.size, 0, rfl, by simp, fun j hj => ?_⟩⟩
  · simp only [List.mem_cons, List.not_mem_nil, or_false] at he
    rcases he with rfl | rfl | rfl <;> first | exact ok_aT | exact ok_dT | exact ok_vT
  · match j, hj with
    | 0, _ => exact ⟨by simp [aT], by simp [aT], by simp [aT], by simp [aT], by simp [aT], by simp [aT], by simp [aT], by simp [aT, str]⟩
    | 1, _ => exact ⟨by simp [dT], by simp [dT], by simp [dT], by simp [dT], by simp [dT], by simp [dT], by simp [dT], by simp [dT, str]⟩
    | 2, _ => exact ⟨by simp [aT], by simp [aT], by simp [aT], by simp [aT], by simp [aT], by simp [aT], by simp [aT], by simp [aT, str]⟩
theorem foldC_ada (u : World) (hw : Nam u) (h0 : 0 < u.heap.size) : Calls Tryd.prog 18 #[.slice (some ⟨u.heap.size, 0, none⟩) 3 3] (u.alloc (.cells #[.int .i64 1, .int .i64 1, .int .i64 3, .int .i64 0, .int .i64 0, .int .i64 9, .int .u32 77, .string ⟨#[]⟩, .int .i64 2, .int .i64 2, .int .i64 3, .int .i64 0, .int .i64 0, .int .i64 0, .int .u32 0, .string ⟨#[]⟩, .int .i64 1, .int .i64 1, .int .i64 3, .int .i64 0, .int .i64 0, .int .i64 9, .int .u32 77, .string ⟨#[]⟩] 25)) fun e w' => ∃ (A' : Option Addr) (cap' : Nat), e = .returned (.tuple #[.slice A' 0 cap', .agg #[.int .i64 0, .int .i64 0, .int .i64 0, .int .i64 0, .int .i64 0, .int .i64 0], .int .i64 0, .int .i64 7]) ∧ InfRow w' A' 0 cap' [] ∧ Below u.heap.size u w' := by
  have hb : Below u.heap.size u (u.alloc (.cells #[.int .i64 1, .int .i64 1, .int .i64 3, .int .i64 0, .int .i64 0, .int .i64 9, .int .u32 77, .string ⟨#[]⟩, .int .i64 2, .int .i64 2, .int .i64 3, .int .i64 0, .int .i64 0, .int .i64 0, .int .u32 0, .string ⟨#[]⟩, .int .i64 1, .int .i64 1, .int .i64 3, .int .i64 0, .int .i64 0, .int .i64 9, .int .u32 77, .string ⟨#[]⟩] 25)) := below_box _ _
  have h := fold_in (row_ada u) (by omega) (hw.below h0 hb) (Nat.lt_of_lt_of_le h0 hb.size)
  rw [fold_ada] at h
  refine h.mono ?_
  rintro e w' ⟨A', cap', he, hr, hbb⟩
  exact ⟨A', cap', he, hr, past hb hbb⟩
theorem row_d (u : World) : EntRow (u.alloc (.cells #[.int .i64 2, .int .i64 2, .int .i64 3, .int .i64 0, .int .i64 0, .int .i64 0, .int .u32 0, .string ⟨#[]⟩] 25)) (some ⟨u.heap.size, 0, none⟩) 1 1 [dT] := by
  refine ⟨rfl, Nat.le_refl _, by unfold maxLen; omega, fun h => (by cases h), fun e he => ?_, fun _ => ⟨u.heap.size, 0, rfl, by simp, fun j hj => ?_⟩⟩
  · simp only [List.mem_cons, List.not_mem_nil, or_false] at he
    subst he <;> first | exact ok_aT | exact ok_dT | exact ok_vT
  · match j, hj with
    | 0, _ => exact ⟨by simp [dT], by simp [dT], by simp [dT], by simp [dT], by simp [dT], by simp [dT], by simp [dT], by simp [dT, str]⟩
theorem foldC_d (u : World) (hw : Nam u) (h0 : 0 < u.heap.size) : Calls Tryd.prog 18 #[.slice (some ⟨u.heap.size, 0, none⟩) 1 1] (u.alloc (.cells #[.int .i64 2, .int .i64 2, .int .i64 3, .int .i64 0, .int .i64 0, .int .i64 0, .int .u32 0, .string ⟨#[]⟩] 25)) fun e w' => ∃ (A' : Option Addr) (cap' : Nat), e = .returned (.tuple #[.slice A' 0 cap', .agg #[.int .i64 0, .int .i64 0, .int .i64 0, .int .i64 0, .int .i64 0, .int .i64 0], .int .i64 0, .int .i64 9]) ∧ InfRow w' A' 0 cap' [] ∧ Below u.heap.size u w' := by
  have hb : Below u.heap.size u (u.alloc (.cells #[.int .i64 2, .int .i64 2, .int .i64 3, .int .i64 0, .int .i64 0, .int .i64 0, .int .u32 0, .string ⟨#[]⟩] 25)) := below_box _ _
  have h := fold_in (row_d u) (by omega) (hw.below h0 hb) (Nat.lt_of_lt_of_le h0 hb.size)
  rw [fold_d] at h
  refine h.mono ?_
  rintro e w' ⟨A', cap', he, hr, hbb⟩
  exact ⟨A', cap', he, hr, past hb hbb⟩
theorem row_da (u : World) : EntRow (u.alloc (.cells #[.int .i64 2, .int .i64 2, .int .i64 3, .int .i64 0, .int .i64 0, .int .i64 0, .int .u32 0, .string ⟨#[]⟩, .int .i64 1, .int .i64 1, .int .i64 3, .int .i64 0, .int .i64 0, .int .i64 9, .int .u32 77, .string ⟨#[]⟩] 25)) (some ⟨u.heap.size, 0, none⟩) 2 2 [dT, aT] := by
  refine ⟨rfl, Nat.le_refl _, by unfold maxLen; omega, fun h => (by cases h), fun e he => ?_, fun _ => ⟨u.heap.size, 0, rfl, by simp, fun j hj => ?_⟩⟩
  · simp only [List.mem_cons, List.not_mem_nil, or_false] at he
    rcases he with rfl | rfl <;> first | exact ok_aT | exact ok_dT | exact ok_vT
  · match j, hj with
    | 0, _ => exact ⟨by simp [dT], by simp [dT], by simp [dT], by simp [dT], by simp [dT], by simp [dT], by simp [dT], by simp [dT, str]⟩
    | 1, _ => exact ⟨by simp [aT], by simp [aT], by simp [aT], by simp [aT], by simp [aT], by simp [aT], by simp [aT], by simp [aT, str]⟩
theorem foldC_da (u : World) (hw : Nam u) (h0 : 0 < u.heap.size) : Calls Tryd.prog 18 #[.slice (some ⟨u.heap.size, 0, none⟩) 2 2] (u.alloc (.cells #[.int .i64 2, .int .i64 2, .int .i64 3, .int .i64 0, .int .i64 0, .int .i64 0, .int .u32 0, .string ⟨#[]⟩, .int .i64 1, .int .i64 1, .int .i64 3, .int .i64 0, .int .i64 0, .int .i64 9, .int .u32 77, .string ⟨#[]⟩] 25)) fun e w' => ∃ (A' : Option Addr) (cap' : Nat), e = .returned (.tuple #[.slice A' 0 cap', .agg #[.int .i64 0, .int .i64 0, .int .i64 0, .int .i64 0, .int .i64 0, .int .i64 0], .int .i64 0, .int .i64 9]) ∧ InfRow w' A' 0 cap' [] ∧ Below u.heap.size u w' := by
  have hb : Below u.heap.size u (u.alloc (.cells #[.int .i64 2, .int .i64 2, .int .i64 3, .int .i64 0, .int .i64 0, .int .i64 0, .int .u32 0, .string ⟨#[]⟩, .int .i64 1, .int .i64 1, .int .i64 3, .int .i64 0, .int .i64 0, .int .i64 9, .int .u32 77, .string ⟨#[]⟩] 25)) := below_box _ _
  have h := fold_in (row_da u) (by omega) (hw.below h0 hb) (Nat.lt_of_lt_of_le h0 hb.size)
  rw [fold_da] at h
  refine h.mono ?_
  rintro e w' ⟨A', cap', he, hr, hbb⟩
  exact ⟨A', cap', he, hr, past hb hbb⟩
theorem row_va (u : World) : EntRow (u.alloc (.cells #[.int .i64 3, .int .i64 2, .int .i64 0, .int .i64 0, .int .i64 0, .int .i64 0, .int .u32 0, .string ⟨#[]⟩, .int .i64 1, .int .i64 1, .int .i64 3, .int .i64 0, .int .i64 0, .int .i64 9, .int .u32 77, .string ⟨#[]⟩] 25)) (some ⟨u.heap.size, 0, none⟩) 2 2 [vT, aT] := by
  refine ⟨rfl, Nat.le_refl _, by unfold maxLen; omega, fun h => (by cases h), fun e he => ?_, fun _ => ⟨u.heap.size, 0, rfl, by simp, fun j hj => ?_⟩⟩
  · simp only [List.mem_cons, List.not_mem_nil, or_false] at he
    rcases he with rfl | rfl <;> first | exact ok_aT | exact ok_dT | exact ok_vT
  · match j, hj with
    | 0, _ => exact ⟨by simp [vT], by simp [vT], by simp [vT], by simp [vT], by simp [vT], by simp [vT], by simp [vT], by simp [vT, str]⟩
    | 1, _ => exact ⟨by simp [aT], by simp [aT], by simp [aT], by simp [aT], by simp [aT], by simp [aT], by simp [aT], by simp [aT, str]⟩
theorem foldC_va (u : World) (hw : Nam u) (h0 : 0 < u.heap.size) : Calls Tryd.prog 18 #[.slice (some ⟨u.heap.size, 0, none⟩) 2 2] (u.alloc (.cells #[.int .i64 3, .int .i64 2, .int .i64 0, .int .i64 0, .int .i64 0, .int .i64 0, .int .u32 0, .string ⟨#[]⟩, .int .i64 1, .int .i64 1, .int .i64 3, .int .i64 0, .int .i64 0, .int .i64 9, .int .u32 77, .string ⟨#[]⟩] 25)) fun e w' => ∃ (A' : Option Addr) (cap' : Nat), e = .returned (.tuple #[.slice A' 0 cap', .agg #[.int .i64 0, .int .i64 0, .int .i64 0, .int .i64 0, .int .i64 0, .int .i64 0], .int .i64 0, .int .i64 12]) ∧ InfRow w' A' 0 cap' [] ∧ Below u.heap.size u w' := by
  have hb : Below u.heap.size u (u.alloc (.cells #[.int .i64 3, .int .i64 2, .int .i64 0, .int .i64 0, .int .i64 0, .int .i64 0, .int .u32 0, .string ⟨#[]⟩, .int .i64 1, .int .i64 1, .int .i64 3, .int .i64 0, .int .i64 0, .int .i64 9, .int .u32 77, .string ⟨#[]⟩] 25)) := below_box _ _
  have h := fold_in (row_va u) (by omega) (hw.below h0 hb) (Nat.lt_of_lt_of_le h0 hb.size)
  rw [fold_va] at h
  refine h.mono ?_
  rintro e w' ⟨A', cap', he, hr, hbb⟩
  exact ⟨A', cap', he, hr, past hb hbb⟩
set_option maxHeartbeats 4000000 in
theorem told_any (w : World) (hw : Nam w) (h0 : 0 < w.heap.size) : Calls Tryd.prog 13 #[] w fun e w' => e = .returned (.bool true) ∧ Below w.heap.size w w' := by
  have HU : Hid (Later w fun u => Nam u ∧ 0 < u.heap.size ∧ Below w.heap.size w u) := Lib.hid (fun u hu => ⟨hw.below h0 hu, Nat.lt_of_lt_of_le h0 hu.size, hu⟩)
  clear hw h0
  go_enter Tryd.func13, Tryd.ntmps13
  go_upto_region 2 with fail
  have hb : Below w.heap.size w (w.alloc (.cells #[.int .i64 1, .int .i64 1, .int .i64 3, .int .i64 0, .int .i64 0, .int .i64 9, .int .u32 77, .string ⟨#[]⟩] 25)) := below_box _ _
  have HU1 := Lib.hid (HU.out.on hb)
  have HA1 : Hid (Later (w.alloc (.cells #[.int .i64 1, .int .i64 1, .int .i64 3, .int .i64 0, .int .i64 0, .int .i64 9, .int .u32 77, .string ⟨#[]⟩] 25)) fun u => EV u w.heap.size aT) := Lib.hid (fun u hu => EV.below (EV.new w aT) hu)
  generalize hg : w.heap.size = g at HA1 ⊢
  generalize w.alloc (.cells #[.int .i64 1, .int .i64 1, .int .i64 3, .int .i64 0, .int .i64 0, .int .i64 9, .int .u32 77, .string ⟨#[]⟩] 25) = w1 at *
  clear hb HU hg
  go_upto_region 3 with fail
  have hb : Below w1.heap.size w1 (w1.alloc (.cells #[.int .i64 2, .int .i64 2, .int .i64 3, .int .i64 0, .int .i64 0, .int .i64 0, .int .u32 0, .string ⟨#[]⟩] 25)) := below_box _ _
  have HU2 := Lib.hid (HU1.out.on hb)
  have HA2 := Lib.hid (HA1.out.on hb)
  have HD2 : Hid (Later (w1.alloc (.cells #[.int .i64 2, .int .i64 2, .int .i64 3, .int .i64 0, .int .i64 0, .int .i64 0, .int .u32 0, .string ⟨#[]⟩] 25)) fun u => EV u w1.heap.size dT) := Lib.hid (fun u hu => EV.below (EV.new w1 dT) hu)
  generalize hg2 : w1.heap.size = gd at HD2 ⊢
  generalize w1.alloc (.cells #[.int .i64 2, .int .i64 2, .int .i64 3, .int .i64 0, .int .i64 0, .int .i64 0, .int .u32 0, .string ⟨#[]⟩] 25) = w2 at *
  clear hb HU1 HA1 hg2
  obtain ⟨a0, a1, a2, a3, a4, a5, a6, a7⟩ := ev_a HA2.out.now
  go_wp2_with fail
  refine (putA _ HU2.out.now.1 HU2.out.now.2.1).mono ?_
  rintro e w3 ⟨A, cap, rfl, hr, hb⟩
  have HU3 := Lib.hid (HU2.out.on hb)
  have HA3 := Lib.hid (HA2.out.on hb)
  have HD3 := Lib.hid (HD2.out.on hb)
  have HR3 := Lib.hid hr
  clear hb HU2 HA2 HD2 hr a0 a1 a2 a3 a4 a5 a6 a7
  go_wp2_with fail
  refine (getA HR3.out HU3.out.now.1 HU3.out.now.2.1).mono ?_
  rintro e w4 ⟨rfl, hb⟩
  have HU4 := Lib.hid (HU3.out.on hb)
  have HA4 := Lib.hid (HA3.out.on hb)
  have HD4 := Lib.hid (HD3.out.on hb)
  clear hb HU3 HA3 HD3 HR3
  go_upto_region 5 with fail
  have hb : Below w4.heap.size w4 (w4.alloc (.cells #[.int .i64 1, .int .i64 1, .int .i64 3, .int .i64 0, .int .i64 0, .int .i64 9, .int .u32 77, .string ⟨#[]⟩] 25)) := below_box _ _
  have HU5 := Lib.hid (HU4.out.on hb)
  have HA5 := Lib.hid (HA4.out.on hb)
  have HD5 := Lib.hid (HD4.out.on hb)
  have HX5 : Hid (Later (w4.alloc (.cells #[.int .i64 1, .int .i64 1, .int .i64 3, .int .i64 0, .int .i64 0, .int .i64 9, .int .u32 77, .string ⟨#[]⟩] 25)) fun u => EV u w4.heap.size aT) := Lib.hid (fun u hu => EV.below (EV.new w4 aT) hu)
  generalize hg3 : w4.heap.size = gx at HX5 ⊢
  generalize w4.alloc (.cells #[.int .i64 1, .int .i64 1, .int .i64 3, .int .i64 0, .int .i64 0, .int .i64 9, .int .u32 77, .string ⟨#[]⟩] 25) = w5 at *
  clear hb HU4 HA4 HD4 hg3
  obtain ⟨a0, a1, a2, a3, a4, a5, a6, a7⟩ := ev_a HA5.out.now
  obtain ⟨d0, d1, d2, d3, d4, d5, d6, d7⟩ := ev_d HD5.out.now
  go_wp2_with fail
  refine (foldC_av _ HU5.out.now.1 HU5.out.now.2.1).mono ?_
  rintro e w6 ⟨B5, cb5, rfl, hr, hb⟩
  have HI6 : Hid (Later w6 fun u => InfRow u B5 1 cb5 [⟨3, 0, 0, 9, 77⟩]) := Lib.hid (fun u hu => hr.below hu)
  obtain ⟨bI, oI, rfl, hlt, hcell⟩ := hr.cells (by decide)
  have HC6 : Hid (Later w6 fun u => u.cell? ⟨bI, oI, none⟩ = some (.int .i64 3) ∧ u.cell? ⟨bI, oI + 1, none⟩ = some (.int .i64 0) ∧ u.cell? ⟨bI, oI + 2, none⟩ = some (.int .i64 0) ∧ u.cell? ⟨bI, oI + 3, none⟩ = some (.int .i64 9) ∧ u.cell? ⟨bI, oI + 4, none⟩ = some (.int .u32 77)) := Lib.hid (fun u hu => by
    have h := hcell 0 (by decide)
    simp only [Nat.zero_mul, Nat.add_zero] at h
    exact ⟨by rw [hu.cell hlt]; exact h.1, by rw [hu.cell hlt]; exact h.2.1, by rw [hu.cell hlt]; exact h.2.2.1, by rw [hu.cell hlt]; exact h.2.2.2.1, by rw [hu.cell hlt]; exact h.2.2.2.2⟩)
  clear hcell hlt
  have HU6 := Lib.hid (HU5.out.on hb)
  have HA6 := Lib.hid (HA5.out.on hb)
  have HD6 := Lib.hid (HD5.out.on hb)
  have HX6 := Lib.hid (HX5.out.on hb)
  clear hb HU5 HA5 HD5 HX5
  clear hr a0 a1 a2 a3 a4 a5 a6 a7 d0 d1 d2 d3 d4 d5 d6 d7
  go_upto_region 6 with fail
  have hb : Below w6.heap.size w6 (w6.alloc (.cells #[.int .i64 60, .int .i64 600, .int .i64 6000, .int .i64 0, .int .i64 8, .int .i64 30] 39)) := below_box _ _
  have HP7 : Hid (Later (w6.alloc (.cells #[.int .i64 60, .int .i64 600, .int .i64 6000, .int .i64 0, .int .i64 8, .int .i64 30] 39)) fun u => u.cell? ⟨w6.heap.size, 0, none⟩ = some (.int .i64 60) ∧ u.cell? ⟨w6.heap.size, 1, none⟩ = some (.int .i64 600) ∧ u.cell? ⟨w6.heap.size, 2, none⟩ = some (.int .i64 6000) ∧ u.cell? ⟨w6.heap.size, 3, none⟩ = some (.int .i64 0) ∧ u.cell? ⟨w6.heap.size, 4, none⟩ = some (.int .i64 8) ∧ u.cell? ⟨w6.heap.size, 5, none⟩ = some (.int .i64 30)) := Lib.hid (fun u hu => by
    have hlt : w6.heap.size < (w6.alloc (.cells #[.int .i64 60, .int .i64 600, .int .i64 6000, .int .i64 0, .int .i64 8, .int .i64 30] 39)).heap.size := by simp
    exact ⟨by rw [hu.cell hlt]; simp, by rw [hu.cell hlt]; simp, by rw [hu.cell hlt]; simp, by rw [hu.cell hlt]; simp, by rw [hu.cell hlt]; simp, by rw [hu.cell hlt]; simp⟩)
  generalize hg5 : w6.heap.size = gp at HP7 ⊢
  have HU7 := Lib.hid (HU6.out.on hb)
  have HA7 := Lib.hid (HA6.out.on hb)
  have HD7 := Lib.hid (HD6.out.on hb)
  have HX7 := Lib.hid (HX6.out.on hb)
  have HI7 := Lib.hid (HI6.out.on hb)
  have HC7 := Lib.hid (HC6.out.on hb)
  clear hb HU6 HA6 HD6 HX6 HI6 HC6
  clear hg5
  generalize w6.alloc (.cells #[.int .i64 60, .int .i64 600, .int .i64 6000, .int .i64 0, .int .i64 8, .int .i64 30] 39) = w7 at *
  obtain ⟨a0, a1, a2, a3, a4, a5, a6, a7⟩ := ev_a HA7.out.now
  obtain ⟨d0, d1, d2, d3, d4, d5, d6, d7⟩ := ev_d HD7.out.now
  go_wp2_with fail
  refine (foldC_ada _ HU7.out.now.1 HU7.out.now.2.1).mono ?_
  rintro e w8 ⟨B6, cb6, rfl, hr, hb⟩
  have HU8 := Lib.hid (HU7.out.on hb)
  have HA8 := Lib.hid (HA7.out.on hb)
  have HD8 := Lib.hid (HD7.out.on hb)
  have HX8 := Lib.hid (HX7.out.on hb)
  have HI8 := Lib.hid (HI7.out.on hb)
  have HC8 := Lib.hid (HC7.out.on hb)
  have HP8 := Lib.hid (HP7.out.on hb)
  clear hb HU7 HA7 HD7 HX7 HI7 HC7 HP7
  clear hr a0 a1 a2 a3 a4 a5 a6 a7 d0 d1 d2 d3 d4 d5 d6 d7
  go_upto_region 7 with fail
  have hb : Below w8.heap.size w8 (w8.alloc (.cells #[.int .i64 0, .int .i64 0, .int .i64 0, .int .i64 0, .int .i64 0, .int .i64 0] 39)) := below_box _ _
  have HU9 := Lib.hid (HU8.out.on hb)
  have HA9 := Lib.hid (HA8.out.on hb)
  have HD9 := Lib.hid (HD8.out.on hb)
  have HX9 := Lib.hid (HX8.out.on hb)
  have HI9 := Lib.hid (HI8.out.on hb)
  have HC9 := Lib.hid (HC8.out.on hb)
  have HP9 := Lib.hid (HP8.out.on hb)
  clear hb HU8 HA8 HD8 HX8 HI8 HC8 HP8
  generalize w8.alloc (.cells #[.int .i64 0, .int .i64 0, .int .i64 0, .int .i64 0, .int .i64 0, .int .i64 0] 39) = w9 at *
  obtain ⟨a0, a1, a2, a3, a4, a5, a6, a7⟩ := ev_a HA9.out.now
  obtain ⟨d0, d1, d2, d3, d4, d5, d6, d7⟩ := ev_d HD9.out.now
  go_wp2_with fail
  refine (foldC_d _ HU9.out.now.1 HU9.out.now.2.1).mono ?_
  rintro e w10 ⟨B7, cb7, rfl, hr, hb⟩
  have HU10 := Lib.hid (HU9.out.on hb)
  have HA10 := Lib.hid (HA9.out.on hb)
  have HD10 := Lib.hid (HD9.out.on hb)
  have HX10 := Lib.hid (HX9.out.on hb)
  have HI10 := Lib.hid (HI9.out.on hb)
  have HC10 := Lib.hid (HC9.out.on hb)
  have HP10 := Lib.hid (HP9.out.on hb)
  clear hb HU9 HA9 HD9 HX9 HI9 HC9 HP9
  clear hr a0 a1 a2 a3 a4 a5 a6 a7 d0 d1 d2 d3 d4 d5 d6 d7
  go_upto_region 8 with fail
  have hb : Below w10.heap.size w10 (w10.alloc (.cells #[.int .i64 0, .int .i64 0, .int .i64 0, .int .i64 0, .int .i64 0, .int .i64 0] 39)) := below_box _ _
  have HU11 := Lib.hid (HU10.out.on hb)
  have HA11 := Lib.hid (HA10.out.on hb)
  have HD11 := Lib.hid (HD10.out.on hb)
  have HX11 := Lib.hid (HX10.out.on hb)
  have HI11 := Lib.hid (HI10.out.on hb)
  have HC11 := Lib.hid (HC10.out.on hb)
  have HP11 := Lib.hid (HP10.out.on hb)
  clear hb HU10 HA10 HD10 HX10 HI10 HC10 HP10
  generalize w10.alloc (.cells #[.int .i64 0, .int .i64 0, .int .i64 0, .int .i64 0, .int .i64 0, .int .i64 0] 39) = w11 at *
  obtain ⟨a0, a1, a2, a3, a4, a5, a6, a7⟩ := ev_a HA11.out.now
  obtain ⟨d0, d1, d2, d3, d4, d5, d6, d7⟩ := ev_d HD11.out.now
  go_wp2_with fail
  refine (foldC_da _ HU11.out.now.1 HU11.out.now.2.1).mono ?_
  rintro e w12 ⟨B8, cb8, rfl, hr, hb⟩
  have HU12 := Lib.hid (HU11.out.on hb)
  have HA12 := Lib.hid (HA11.out.on hb)
  have HD12 := Lib.hid (HD11.out.on hb)
  have HX12 := Lib.hid (HX11.out.on hb)
  have HI12 := Lib.hid (HI11.out.on hb)
  have HC12 := Lib.hid (HC11.out.on hb)
  have HP12 := Lib.hid (HP11.out.on hb)
  clear hb HU11 HA11 HD11 HX11 HI11 HC11 HP11
  clear hr a0 a1 a2 a3 a4 a5 a6 a7 d0 d1 d2 d3 d4 d5 d6 d7
  go_upto_region 9 with fail
  have hb : Below w12.heap.size w12 (w12.alloc (.cells #[.int .i64 0, .int .i64 0, .int .i64 0, .int .i64 0, .int .i64 0, .int .i64 0] 39)) := below_box _ _
  have HU13 := Lib.hid (HU12.out.on hb)
  have HA13 := Lib.hid (HA12.out.on hb)
  have HD13 := Lib.hid (HD12.out.on hb)
  have HX13 := Lib.hid (HX12.out.on hb)
  have HI13 := Lib.hid (HI12.out.on hb)
  have HC13 := Lib.hid (HC12.out.on hb)
  have HP13 := Lib.hid (HP12.out.on hb)
  clear hb HU12 HA12 HD12 HX12 HI12 HC12 HP12
  generalize w12.alloc (.cells #[.int .i64 0, .int .i64 0, .int .i64 0, .int .i64 0, .int .i64 0, .int .i64 0] 39) = w13 at *
  obtain ⟨a0, a1, a2, a3, a4, a5, a6, a7⟩ := ev_a HA13.out.now
  obtain ⟨d0, d1, d2, d3, d4, d5, d6, d7⟩ := ev_d HD13.out.now
  go_wp2_with fail
  refine (foldC_va _ HU13.out.now.1 HU13.out.now.2.1).mono ?_
  rintro e w14 ⟨B9, cb9, rfl, hr, hb⟩
  have HU14 := Lib.hid (HU13.out.on hb)
  have HA14 := Lib.hid (HA13.out.on hb)
  have HD14 := Lib.hid (HD13.out.on hb)
  have HX14 := Lib.hid (HX13.out.on hb)
  have HI14 := Lib.hid (HI13.out.on hb)
  have HC14 := Lib.hid (HC13.out.on hb)
  have HP14 := Lib.hid (HP13.out.on hb)
  clear hb HU13 HA13 HD13 HX13 HI13 HC13 HP13
  clear hr a0 a1 a2 a3 a4 a5 a6 a7 d0 d1 d2 d3 d4 d5 d6 d7
  go_upto_region 10 with fail
  have hb : Below w14.heap.size w14 (w14.alloc (.cells #[.int .i64 0, .int .i64 0, .int .i64 0, .int .i64 0, .int .i64 0, .int .i64 0] 39)) := below_box _ _
  have HU15 := Lib.hid (HU14.out.on hb)
  have HA15 := Lib.hid (HA14.out.on hb)
  have HD15 := Lib.hid (HD14.out.on hb)
  have HX15 := Lib.hid (HX14.out.on hb)
  have HI15 := Lib.hid (HI14.out.on hb)
  have HC15 := Lib.hid (HC14.out.on hb)
  have HP15 := Lib.hid (HP14.out.on hb)
  clear hb HU14 HA14 HD14 HX14 HI14 HC14 HP14
  generalize w14.alloc (.cells #[.int .i64 0, .int .i64 0, .int .i64 0, .int .i64 0, .int .i64 0, .int .i64 0] 39) = w15 at *
  have A0 : ∀ u : SubB w15, u.w.cell? ⟨g, 0, none⟩ = some (.int .i64 1) := fun u => (ev_a (HA15.out u.w u.le)).1
  have A1 : ∀ u : SubB w15, u.w.cell? ⟨g, 1, none⟩ = some (.int .i64 1) := fun u => (ev_a (HA15.out u.w u.le)).2.1
  have A2 : ∀ u : SubB w15, u.w.cell? ⟨g, 2, none⟩ = some (.int .i64 3) := fun u => (ev_a (HA15.out u.w u.le)).2.2.1
  have A3 : ∀ u : SubB w15, u.w.cell? ⟨g, 3, none⟩ = some (.int .i64 0) := fun u => (ev_a (HA15.out u.w u.le)).2.2.2.1
  have A4 : ∀ u : SubB w15, u.w.cell? ⟨g, 4, none⟩ = some (.int .i64 0) := fun u => (ev_a (HA15.out u.w u.le)).2.2.2.2.1
  have A5 : ∀ u : SubB w15, u.w.cell? ⟨g, 5, none⟩ = some (.int .i64 9) := fun u => (ev_a (HA15.out u.w u.le)).2.2.2.2.2.1
  have A6 : ∀ u : SubB w15, u.w.cell? ⟨g, 6, none⟩ = some (.int .u32 77) := fun u => (ev_a (HA15.out u.w u.le)).2.2.2.2.2.2.1
  have A7 : ∀ u : SubB w15, u.w.cell? ⟨g, 7, none⟩ = some (.string ⟨#[]⟩) := fun u => (ev_a (HA15.out u.w u.le)).2.2.2.2.2.2.2
  have X0 : ∀ u : SubB w15, u.w.cell? ⟨gx, 0, none⟩ = some (.int .i64 1) := fun u => (ev_a (HX15.out u.w u.le)).1
  have X1 : ∀ u : SubB w15, u.w.cell? ⟨gx, 1, none⟩ = some (.int .i64 1) := fun u => (ev_a (HX15.out u.w u.le)).2.1
  have X2 : ∀ u : SubB w15, u.w.cell? ⟨gx, 2, none⟩ = some (.int .i64 3) := fun u => (ev_a (HX15.out u.w u.le)).2.2.1
  have X3 : ∀ u : SubB w15, u.w.cell? ⟨gx, 3, none⟩ = some (.int .i64 0) := fun u => (ev_a (HX15.out u.w u.le)).2.2.2.1
  have X4 : ∀ u : SubB w15, u.w.cell? ⟨gx, 4, none⟩ = some (.int .i64 0) := fun u => (ev_a (HX15.out u.w u.le)).2.2.2.2.1
  have X5 : ∀ u : SubB w15, u.w.cell? ⟨gx, 5, none⟩ = some (.int .i64 9) := fun u => (ev_a (HX15.out u.w u.le)).2.2.2.2.2.1
  have X6 : ∀ u : SubB w15, u.w.cell? ⟨gx, 6, none⟩ = some (.int .u32 77) := fun u => (ev_a (HX15.out u.w u.le)).2.2.2.2.2.2.1
  have X7 : ∀ u : SubB w15, u.w.cell? ⟨gx, 7, none⟩ = some (.string ⟨#[]⟩) := fun u => (ev_a (HX15.out u.w u.le)).2.2.2.2.2.2.2
  have D0 : ∀ u : SubB w15, u.w.cell? ⟨gd, 0, none⟩ = some (.int .i64 2) := fun u => (ev_d (HD15.out u.w u.le)).1
  have D1 : ∀ u : SubB w15, u.w.cell? ⟨gd, 1, none⟩ = some (.int .i64 2) := fun u => (ev_d (HD15.out u.w u.le)).2.1
  have D2 : ∀ u : SubB w15, u.w.cell? ⟨gd, 2, none⟩ = some (.int .i64 3) := fun u => (ev_d (HD15.out u.w u.le)).2.2.1
  have D3 : ∀ u : SubB w15, u.w.cell? ⟨gd, 3, none⟩ = some (.int .i64 0) := fun u => (ev_d (HD15.out u.w u.le)).2.2.2.1
  have D4 : ∀ u : SubB w15, u.w.cell? ⟨gd, 4, none⟩ = some (.int .i64 0) := fun u => (ev_d (HD15.out u.w u.le)).2.2.2.2.1
  have D5 : ∀ u : SubB w15, u.w.cell? ⟨gd, 5, none⟩ = some (.int .i64 0) := fun u => (ev_d (HD15.out u.w u.le)).2.2.2.2.2.1
  have D6 : ∀ u : SubB w15, u.w.cell? ⟨gd, 6, none⟩ = some (.int .u32 0) := fun u => (ev_d (HD15.out u.w u.le)).2.2.2.2.2.2.1
  have D7 : ∀ u : SubB w15, u.w.cell? ⟨gd, 7, none⟩ = some (.string ⟨#[]⟩) := fun u => (ev_d (HD15.out u.w u.le)).2.2.2.2.2.2.2
  have F0 : ∀ u : SubB w15, u.w.cell? ⟨bI, oI, none⟩ = some (.int .i64 3) := fun u => (HC15.out u.w u.le).1
  have F1 : ∀ u : SubB w15, u.w.cell? ⟨bI, oI + 1, none⟩ = some (.int .i64 0) := fun u => (HC15.out u.w u.le).2.1
  have F2 : ∀ u : SubB w15, u.w.cell? ⟨bI, oI + 2, none⟩ = some (.int .i64 0) := fun u => (HC15.out u.w u.le).2.2.1
  have F3 : ∀ u : SubB w15, u.w.cell? ⟨bI, oI + 3, none⟩ = some (.int .i64 9) := fun u => (HC15.out u.w u.le).2.2.2.1
  have F4 : ∀ u : SubB w15, u.w.cell? ⟨bI, oI + 4, none⟩ = some (.int .u32 77) := fun u => (HC15.out u.w u.le).2.2.2.2
  have P0 : ∀ u : SubB w15, u.w.cell? ⟨gp, 0, none⟩ = some (.int .i64 60) := fun u => (HP15.out u.w u.le).1
  have P1 : ∀ u : SubB w15, u.w.cell? ⟨gp, 1, none⟩ = some (.int .i64 600) := fun u => (HP15.out u.w u.le).2.1
  have P2 : ∀ u : SubB w15, u.w.cell? ⟨gp, 2, none⟩ = some (.int .i64 6000) := fun u => (HP15.out u.w u.le).2.2.1
  have P3 : ∀ u : SubB w15, u.w.cell? ⟨gp, 3, none⟩ = some (.int .i64 0) := fun u => (HP15.out u.w u.le).2.2.2.1
  have P4 : ∀ u : SubB w15, u.w.cell? ⟨gp, 4, none⟩ = some (.int .i64 8) := fun u => (HP15.out u.w u.le).2.2.2.2.1
  have P5 : ∀ u : SubB w15, u.w.cell? ⟨gp, 5, none⟩ = some (.int .i64 30) := fun u => (HP15.out u.w u.le).2.2.2.2.2
  have N0 : Hid (∀ w, Calls Tryd.prog 38 #[] w fun e w' => e = .returned (.agg #[.int .i64 60, .int .i64 600, .int .i64 6000, .int .i64 0, .int .i64 8, .int .i64 30]) ∧ Below w.heap.size w w') := Lib.hid (fun w => default_any w)
  have N1 : Hid (∀ u : SubB w15, Calls Tryd.prog 22 #[.agg #[.int .i64 1, .int .i64 1, .int .i64 3, .int .i64 0, .int .i64 0, .int .i64 9, .int .u32 77, .string ⟨#[]⟩]] u.w fun e w' => e = .returned (.bool true) ∧ Below u.w.heap.size u.w w') := Lib.hid (fun u => by
    have h := may_ent aT u.w ok_aT (HU15.out u.w u.le).1 (HU15.out u.w u.le).2.1
    rw [decide_eq_true may_aT] at h
    exact h)
  have N2 : Hid (∀ u : SubB w15, Calls Tryd.prog 22 #[.agg #[.int .i64 0, .int .i64 0, .int .i64 0, .int .i64 0, .int .i64 0, .int .i64 0, .int .u32 0, .string ⟨#[]⟩]] u.w fun e w' => e = .returned (.bool false) ∧ Below u.w.heap.size u.w w') := Lib.hid (fun u => by
    have h := may_ent Ent.zero u.w (by decide) (HU15.out u.w u.le).1 (HU15.out u.w u.le).2.1
    rw [decide_eq_false (show ¬ Ent.zero.may from by decide)] at h
    exact h)
  have N3 : Hid (∀ w, Calls Tryd.prog 24 #[.agg #[.int .i64 1, .int .i64 1, .int .i64 3, .int .i64 0, .int .i64 0, .int .i64 9, .int .u32 77, .string ⟨#[]⟩], .agg #[.int .i64 1, .int .i64 1, .int .i64 3, .int .i64 0, .int .i64 0, .int .i64 9, .int .u32 77, .string ⟨#[]⟩]] w fun e w' => e = .returned (.bool true) ∧ Below w.heap.size w w') := Lib.hid (fun w => by
    have h := same_any aT aT w
    rw [decide_eq_true rfl] at h
    exact h)
  have N4 : Hid (∀ w, Calls Tryd.prog 24 #[.agg #[.int .i64 1, .int .i64 1, .int .i64 3, .int .i64 0, .int .i64 0, .int .i64 9, .int .u32 77, .string ⟨#[]⟩], .agg #[.int .i64 2, .int .i64 2, .int .i64 3, .int .i64 0, .int .i64 0, .int .i64 0, .int .u32 0, .string ⟨#[]⟩]] w fun e w' => e = .returned (.bool false) ∧ Below w.heap.size w w') := Lib.hid (fun w => by
    have h := same_any aT dT w
    rw [decide_eq_false (show ¬ aT = dT from by decide)] at h
    exact h)
  have N5 : Hid (∀ u : SubB w15, Calls Tryd.prog 20 #[.slice (some ⟨bI, oI, none⟩) 1 cb5, .slice (some ⟨bI, oI, none⟩) 1 cb5] u.w fun e w' => e = .returned (.bool true) ∧ Below u.w.heap.size u.w w') := Lib.hid (fun u => by
    have h := sameInfo_any (HI15.out u.w u.le) (HI15.out u.w u.le)
    rw [decide_eq_true rfl] at h
    exact h)
  have N6 : Hid (∀ u : SubB w15, Calls Tryd.prog 20 #[.slice (some ⟨bI, oI, none⟩) 1 cb5, .slice none 0 0] u.w fun e w' => e = .returned (.bool false) ∧ Below u.w.heap.size u.w w') := Lib.hid (fun u => by
    have h := sameInfo_any (HI15.out u.w u.le) (InfRow.none u.w)
    rw [decide_eq_false (by decide)] at h
    exact h)
  have AE : ∀ w, (Op.equalIn 9999 37 (.agg #[.int .i64 60, .int .i64 600, .int .i64 6000, .int .i64 0]) (.agg #[.int .i64 60, .int .i64 600, .int .i64 6000, .int .i64 0])).run Tryd.prog w = .ok true w := fun w => by rw [eqArr]; rfl
  have HB : Hid (Later w15 fun u => Below w.heap.size w u) := Lib.hid (fun u hu => (HU15.out u hu).2.2)
  clear HU15 HA15 HX15 HD15 HC15 HP15 HI15
  refine wp_region_calm (by kernel_rfl) (by kernel_rfl) ?_
  (try simp only [List.append])
  repeat (go_big_quiet_step ((first | (go_at_call 38; exact calm_call (N0.out _)) | (go_at_call 22; with_reducible exact calm_call (N1.out _)) | (go_at_call 22; with_reducible exact calm_call (N2.out _)) | (go_at_call 24; with_reducible exact calm_call (N3.out _)) | (go_at_call 24; with_reducible exact calm_call (N4.out _)) | (go_at_call 20; with_reducible exact calm_call (N5.out _)) | (go_at_call 20; with_reducible exact calm_call (N6.out _)))))
  refine wpQuiet_nil ?_
  rintro _ ⟨u, rfl⟩
  clear A0 A1 A2 A3 A4 A5 A6 A7 D0 D1 D2 D3 D4 D5 D6 D7 X0 X1 X2 X3 X4 X5 X6 X7 F0 F1 F2 F3 F4 P0 P1 P2 P3 P4 P5
  go_wp2
  go_ret
  exact ⟨rfl, HB.out u.w u.le⟩
end Go.Proofs.YtdpoahjgdndnhaaDoor
