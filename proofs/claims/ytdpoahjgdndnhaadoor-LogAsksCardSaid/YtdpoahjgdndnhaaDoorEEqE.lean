/-
  Same, Few: of any entries, of any rows.
-/
import Derived.Test.YtdpoahjgdndnhaaDoorERowS
import Derived.BigQuiet
set_option maxRecDepth 100000
namespace Go.Proofs.YtdpoahjgdndnhaaDoor
open Go.RowKit
attribute [local go_sem ↓] Go.wp_at_zero Go.wp_at_succ
set_option linter.unusedVariables false

theorem rows_eq {α : Type} {l l' : List α} {n : Nat} {x : α} (hl : l.length = n) (hl' : l'.length = n) (h : ∀ j, j < n → l.getD j x = l'.getD j x) : l = l' := by
  refine List.ext_getElem (by omega) (fun j h1 h2 => ?_)
  have := h j (by omega)
  rw [List.getD_eq_getElem?_getD, List.getD_eq_getElem?_getD, List.getElem?_eq_getElem h1, List.getElem?_eq_getElem h2] at this
  exact this
/-- entry.Same, of any two. -/
theorem same_any (a d : Ent) (w : World) : Calls Tryd.prog 24 #[a.val, d.val] w fun e w' => e = .returned (.bool (decide (a = d))) ∧ Below w.heap.size w w' := by
  have hq := ent_eql a d
  unfold Ent.val str at hq ⊢
  go_enter Tryd.func24, Tryd.ntmps24
  go_wp2
  go_ret
  exact ⟨rfl, past_alloc (past_alloc (Below.refl _ _) _) _⟩

/-- Few, of a row. -/
def few (l : List Ent) : Prop := (∀ e ∈ l, e.tx.length ≤ 400) ∧ l.length ≤ 60
instance (l : List Ent) : Decidable (few l) := by unfold few; infer_instance
set_option maxHeartbeats 1000000 in
theorem few_any {A : Option Addr} {n cap : Nat} {l : List Ent} {w : World} (h : EntRow w A n cap l) :
    Calls Tryd.prog 12 #[.slice A n cap] w fun e w' => e = .returned (.bool (decide (few l))) ∧ w = w' := by
  have hm := h.max
  have hc := h.le
  have hl := h.len
  unfold maxLen at hm
  obtain ⟨R, hR⟩ : ∃ R : Bool, R = decide (few l) := ⟨_, rfl⟩
  rw [← hR]
  have HR := Lib.hid hR
  have H1 := Lib.hid h.cells
  have HL := Lib.hid hl
  have HLEN : Hid (∀ j, j < n → (l.getD j Ent.zero).tx.length < 4611686018427387900) := Lib.hid (fun j hj => by
    rw [List.getD_eq_getElem?_getD, List.getElem?_eq_getElem (by rw [hl]; exact hj)]
    exact (h.ok _ (List.getElem_mem _)).2.2.2.2.2.2.2)
  clear h hl hR
  unfold str at H1
  go_enter Tryd.func12, Tryd.ntmps12
  go_wp2
  go_loopw [3] (fun si wr => ∃ (k : Nat), k ≤ n ∧ si = .int .i64 (k : Int) ∧ Hid (∀ j, j < k → (l.getD j Ent.zero).tx.length ≤ 400) ∧ Hid (w = wr)) (fun si _ => n - (intOf si).toNat)
  case atStart => exact ⟨0, by omega, rfl, Lib.hid (fun j hj => absurd hj (by omega)), Lib.hid rfl⟩
  case round =>
    obtain ⟨k, hk, rfl, HE, HW⟩ := hrel
    by_cases hlt : k < n
    · obtain ⟨b, off, rfl, _, hcell⟩ := H1.out (by omega)
      have c7 := (hcell k hlt).2.2.2.2.2.2.2
      clear hcell
      rw [HW.out] at c7
      obtain ⟨t, ht⟩ : ∃ t, (l.getD k Ent.zero).tx = t := ⟨_, rfl⟩
      rw [ht] at c7
      have htl := HLEN.out k hlt
      rw [ht] at htl
      have HT := Lib.hid ht
      have i1 : (0 : Int) ≤ (k : Int) := by omega
      have i2 : (k : Int) < (n : Int) := by omega
      clear ht
      by_cases h4 : t.length ≤ 400
      · have HE2 : Hid (∀ j, j < k + 1 → (l.getD j Ent.zero).tx.length ≤ 400) := Lib.hid (fun j hj => by
          rcases Nat.lt_or_ge j k with h | h
          · exact HE.out j h
          · obtain rfl : j = k := by omega
            rw [HT.out]; exact h4)
        have i4 : ¬ (400 : Int) < (t.length : Int) := by omega
        go_wp2
        go_roundw
        case rel => exact ⟨k + 1, by omega, by go_num, HE2, HW⟩
        case measure => simp [intOf]; omega
      · have i4 : (400 : Int) < (t.length : Int) := by omega
        have hRf : R = false := by
          rw [HR.out]
          refine decide_eq_false (fun hf => h4 ?_)
          rw [← HT.out, List.getD_eq_getElem?_getD, List.getElem?_eq_getElem (by rw [HL.out]; exact hlt)]
          exact hf.1 _ (List.getElem_mem _)
        subst hRf
        clear h4
        go_wp2
        (try rw [Exit.noGoto_ret])
        go_ret
        exact ⟨rfl, HW.out⟩
    · obtain rfl : k = n := by omega
      have hRf : R = decide ((k : Int) ≤ 60) := by
        rw [HR.out]
        refine decide_eq_decide.2 ⟨fun hf => by have := hf.2; rw [HL.out] at this; omega, fun hk => ⟨fun e he => ?_, by rw [HL.out]; omega⟩⟩
        obtain ⟨j, hj, rfl⟩ := List.mem_iff_getElem.1 he
        have := HE.out j (by rw [← HL.out]; exact hj)
        rw [List.getD_eq_getElem?_getD, List.getElem?_eq_getElem hj] at this
        exact this
      subst hRf
      go_wp2
      (try rw [Exit.noGoto_ret])
      go_ret
      exact ⟨rfl, HW.out⟩
end Go.Proofs.YtdpoahjgdndnhaaDoor
