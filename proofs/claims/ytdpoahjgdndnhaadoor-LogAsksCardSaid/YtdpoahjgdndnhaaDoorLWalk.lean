/-
  What the walks over entries in a file share: rows that may be, how long they are.
-/
import Derived.Test.YtdpoahjgdndnhaaDoorWMeets
import Derived.Test.YtdpoahjgdndnhaaDoorLAll
set_option maxRecDepth 100000
namespace Go.Proofs.YtdpoahjgdndnhaaDoor
open Go.RowKit
attribute [local go_sem ↓] Go.wp_at_zero Go.wp_at_succ
set_option linter.unusedVariables false

theorem entB_byte {e : Ent} (h : e.may) : ∀ c ∈ e.bytes, c < 256 := by
  intro c hc
  unfold Ent.bytes at hc
  rw [List.mem_cons, List.mem_append] at hc
  rcases hc with rfl | hc | hc
  · obtain ⟨_, _, hs⟩ := h
    unfold Ent.says at hs
    split at hs
    · omega
    · split at hs
      · omega
      · split at hs
        · omega
        · split at hs
          · omega
          · exact hs.elim
  · unfold numsB at hc
    obtain ⟨n, _, hc⟩ := List.mem_flatMap.1 hc
    exact enc_byte n c hc
  · unfold textB at hc
    obtain ⟨u, _, rfl⟩ := List.mem_map.1 hc
    exact u.toNat_lt
theorem frm_le {e : Ent} (h : e.may) (ho : e.ok) : (frm e.bytes).length ≤ 414 := by
  have h1 := bytes_short h ho
  have h2 := enc_len_le (n := e.bytes.length) (by omega)
  rw [frm_len]
  omega
theorem allB_bound : ∀ {l : List Ent}, (∀ e ∈ l, e.may ∧ e.ok) → (allB l).length ≤ l.length * 414
  | [], _ => by simp [allB_nil]
  | e :: l, h => by
    have h1 := h e (List.mem_cons_self ..)
    have h2 := frm_le h1.1 h1.2
    have h3 := allB_bound (l := l) (fun d hd => h d (List.mem_cons_of_mem _ hd))
    rw [allB_cons, List.length_append, List.length_cons]
    omega
theorem rows_facts (l : List Int) : (rowsOf (l.map natI)).length ≤ 40 ∧ ∀ e ∈ rowsOf (l.map natI), e.may ∧ e.ok := by
  have h := rows_good (l.map natI)
  refine ⟨?_, h.may⟩
  have := h.len
  unfold rowsOf
  rw [this]
  omega
theorem allE_ok {l : List Ent} (h : ∀ e ∈ l, e.may ∧ e.ok) (hl : l.length ≤ 2000) : allE l = (allB l, 0) := by
  unfold allE
  rw [if_pos (show allMay l from fun e he => (h e he).1), if_neg (by omega)]
theorem may_take {l : List Ent} (h : ∀ e ∈ l, e.may ∧ e.ok) (j : Nat) : ∀ e ∈ l.take j, e.may ∧ e.ok := fun e he => h e (List.mem_of_mem_take he)
theorem may_at {l : List Ent} (h : ∀ e ∈ l, e.may ∧ e.ok) {j : Nat} (hj : j < l.length) : (l.getD j Ent.zero).may ∧ (l.getD j Ent.zero).ok := h _ (getD_mem_ent hj)
theorem frame_ok {e : Ent} (h : e.may) : e.frame = (frm e.bytes, 0) := by unfold Ent.frame; rw [if_pos h]
/-- All, of a row that may be. -/
theorem all_may {A : Option Addr} {n cap : Nat} {l : List Ent} {w : World} (h : EntRow w A n cap l) (hm : ∀ e ∈ l, e.may ∧ e.ok) (hn : n ≤ 200) (hw : Nam w) (h0 : 0 < w.heap.size) :
    Calls Tryd.prog 27 #[.slice A n cap] w fun en w' => ∃ (V : Option Addr) (cp : Nat), en = .returned (.tuple #[.slice V (allB l).length cp, .int .i64 0]) ∧ BRow w' V (allB l).length cp (allB l) ∧ Below w.heap.size w w' ∧ ∀ ad, V = some ad → w.heap.size ≤ ad.block := by
  have hb := allB_bound hm
  have hl := h.len
  have M := all_log h (by omega) hw h0
  rw [allE_ok hm (by omega)] at M
  exact M
end Go.Proofs.YtdpoahjgdndnhaaDoor
