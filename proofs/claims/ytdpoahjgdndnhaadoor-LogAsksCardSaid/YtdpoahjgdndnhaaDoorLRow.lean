/-
  Rows of entries: what a row that a call owns reads, append of one to another, their parts.
-/
import Derived.Test.YtdpoahjgdndnhaaDoorERowS
import Derived.Test.YtdpoahjgdndnhaaDoorEBackN
import Derived.Laws.AppendOwnNone
set_option maxRecDepth 100000
namespace Go.Proofs.YtdpoahjgdndnhaaDoor
open Go.RowKit
attribute [local go_sem ↓] Go.wp_at_zero Go.wp_at_succ
set_option linter.unusedVariables false

def Ent.cl (e : Ent) : List Value := [.int .i64 e.kd, .int .i64 e.vw, .int .i64 e.id, .int .i64 e.tr, .int .i64 e.fr, .int .i64 e.tl, .int .u32 e.sm, str e.tx]
def entV (l : List Ent) : List Value := l.flatMap Ent.cl
theorem entV_cons (e : Ent) (l : List Ent) : entV (e :: l) = e.cl ++ entV l := rfl
theorem entV_append (a b : List Ent) : entV (a ++ b) = entV a ++ entV b := by simp [entV]
theorem entV_one (e : Ent) : entV [e] = e.cl := by simp [entV]
theorem entV_length (l : List Ent) : (entV l).length = l.length * 8 := by
  induction l with
  | nil => rfl
  | cons a r ih =>
    rw [entV_cons, List.length_append, ih, List.length_cons]
    show 8 + _ = _
    omega
theorem entV_get (l : List Ent) : ∀ (j i : Nat), j < l.length → i < 8 → (entV l)[j * 8 + i]? = (l.getD j Ent.zero).cl[i]? := by
  induction l with
  | nil => intro j i hj; simp at hj
  | cons a r ih =>
    intro j i hj hi
    rw [entV_cons]
    match j with
    | 0 =>
      rw [List.getElem?_append_left (by show 0 * 8 + i < 8; omega)]
      simp
    | j + 1 =>
      rw [List.getElem?_append_right (by show 8 ≤ (j + 1) * 8 + i; omega)]
      have e : (j + 1) * 8 + i - a.cl.length = j * 8 + i := by
        show (j + 1) * 8 + i - 8 = _
        omega
      rw [e, ih j i (by simpa using hj) hi]
      simp
theorem entV_ones : ∀ (l : List Ent), ∀ u ∈ entV l, u.oneCell' = true
  | [], u, hu => by simp [entV] at hu
  | a :: r, u, hu => by
    rw [entV_cons, List.mem_append] at hu
    rcases hu with hu | hu
    · unfold Ent.cl at hu
      simp only [List.mem_cons, List.not_mem_nil, or_false] at hu
      rcases hu with rfl | rfl | rfl | rfl | rfl | rfl | rfl | rfl <;> rfl
    · exact entV_ones r u hu
theorem Tryd.info25 : (Tryd.prog.info? 25).map (fun i => (i.zero, i.size, i.bytes)) = some (some (.agg #[.int .i64 0, .int .i64 0, .int .i64 0, .int .i64 0, .int .i64 0, .int .i64 0, .int .u32 0, .string ⟨#[]⟩]), 8, 72) := by kernel_rfl
theorem EntRow.none (w : World) : EntRow w .none 0 0 [] := ⟨rfl, Nat.le_refl _, by unfold maxLen; omega, fun _ => rfl, fun e he => by simp at he, fun h => by omega⟩
theorem entRow_own {w : World} {base n : Nat} {v : Value} {l : List Ent} (h : w.ownsRow base 25 8 v n (entV l)) (hb : ∀ e ∈ l, e.ok) : ∃ A cap, v = .slice A n cap ∧ EntRow w A n cap l ∧ ∀ a, A = some a → base ≤ a.block := by
  have hn : l.length = n := by have := h.1; rw [entV_length] at this; omega
  rcases h.2 with ⟨e, e0⟩ | ⟨g, cap, cur, e, hbg, hh, h1, h2, _⟩
  · subst e0
    obtain rfl : l = [] := List.length_eq_zero_iff.1 hn
    exact ⟨Option.none, 0, e, EntRow.none w, fun a h => by cases h⟩
  · subst e
    refine ⟨some ⟨g, 0, Option.none⟩, cap, rfl, ⟨hn, h1, h2, fun e => (by cases e), hb, fun hp => ⟨g, 0, rfl, ?_, fun j hj => ?_⟩⟩, fun a h => by injection h with h; subst h; exact hbg⟩
    · have := h.cellAt 0 (by omega)
      have hg := entV_get l 0 0 (by omega) (by omega)
      exact World.block_lt_of_cell? w _ (this.trans hg)
    · have c : ∀ i, i < 8 → w.cell? ⟨g, 0 + j * 8 + i, Option.none⟩ = (l.getD j Ent.zero).cl[i]? := fun i hi => by
        rw [Nat.zero_add, h.cellAt (j * 8 + i) (by omega)]
        exact entV_get l j i (by omega) hi
      exact ⟨c 0 (by decide), c 1 (by decide), c 2 (by decide), c 3 (by decide), c 4 (by decide), c 5 (by decide), c 6 (by decide), c 7 (by decide)⟩
theorem EntRow.news {w : World} {ad : Addr} {n cap : Nat} {l : List Ent} (h : EntRow w (some ad) n cap l) : ∀ q u, (entV l)[q]? = some u → w.cell? (ad.add q) = some u := by
  intro q u hq
  have hlt : q < l.length * 8 := by
    rcases Nat.lt_or_ge q (l.length * 8) with e | e
    · exact e
    · rw [List.getElem?_eq_none (by rw [entV_length]; exact e)] at hq; cases hq
  have hl := h.len
  obtain ⟨b, off, e0, _, hc⟩ := h.cells (by omega)
  injection e0 with e0
  subst e0
  have e : q = q / 8 * 8 + q % 8 := by omega
  have hj : q / 8 < l.length := by omega
  have hi : q % 8 < 8 := by omega
  rw [e, entV_get l _ _ hj hi] at hq
  rw [addr_add, e]
  obtain ⟨c0, c1, c2, c3, c4, c5, c6, c7⟩ := hc (q / 8) (by omega)
  generalize q / 8 = j at *
  generalize q % 8 = i at *
  rw [← Nat.add_assoc]
  unfold Ent.cl at hq
  match i, hi with
  | 0, _ => exact c0.trans hq
  | 1, _ => exact c1.trans hq
  | 2, _ => exact c2.trans hq
  | 3, _ => exact c3.trans hq
  | 4, _ => exact c4.trans hq
  | 5, _ => exact c5.trans hq
  | 6, _ => exact c6.trans hq
  | 7, _ => exact c7.trans hq
/-- append(v, x...) of rows of entries. -/
theorem wpList_append_ents {w : World} {ops : Array Oper} {rest : List Oper} {o : Oper} {a : Act} {Q : Exit → Act → World → Prop} (hgd : o.guard = none) (s x : Operand)
    (ho : o.op = .call { callee := .builtin .append, args := #[s, x], argTypes := #[22, 22] }) (base : Nat) (v : Value) (n m : Nat) (l l2 : List Ent) (hs : a.eval s = v) (hown : w.ownsRow base 25 8 v n (entV l))
    (B : Option Addr) (c : Nat) (hx : a.eval x = .slice B m c) (hr : EntRow w B m c l2) (hlen : n + m ≤ 100000) (hbase : base ≤ w.heap.size)
    (h : ∀ v' w', w'.ownsRow base 25 8 v' (n + m) (entV (l ++ l2)) → w.grownBy w' v.ownBlock → wpList Tryd.prog ops Q rest (a.put o.dst v') w') : wpList Tryd.prog ops Q (o :: rest) a w := by
  obtain ⟨i0', hi, hz0, hz1, hz2⟩ := info_parts Tryd.info25
  have hm := hr.len
  cases B with
  | none =>
    have hc := hr.nil rfl
    subst hc
    obtain rfl : m = 0 := by have := hr.le; omega
    obtain rfl : l2 = [] := List.length_eq_zero_iff.1 hm
    refine wpList_append_own_none hgd s x 22 ho base 25 i0' 8 Tryd.underlying22 hi v n (entV l) hs hown hx ?_
    refine h v w ?_ ⟨rfl, rfl, rfl, Nat.le_refl _, fun _ _ _ => rfl⟩
    rw [List.append_nil]
    exact hown
  | some ad =>
    refine wpList_append_own w hgd s x 22 ho base 25 i0' (.agg #[.int .i64 0, .int .i64 0, .int .i64 0, .int .i64 0, .int .i64 0, .int .i64 0, .int .u32 0, .string ⟨#[]⟩]) 8 72 Tryd.underlying22 hi hz0 hz1 hz2 rfl (by decide) v n (entV l) hs hown ad m c (entV l2) hx (by rw [entV_length, hm]) (fun q u hq => hr.news q u hq) (entV_ones _) (by unfold maxLen; omega) (by omega) hbase ?_
    intro v' w' h1 h2 _
    exact h v' w' (by rw [entV_append]; exact h1) h2
theorem sizeE (w : World) : (Go.sizeOf (Tryd.prog.elem 22)).run Tryd.prog w = .ok 8 w := by kernel_rfl
theorem EntRow.take {w : World} {A : Option Addr} {n cap : Nat} {l : List Ent} (h : EntRow w A n cap l) {k : Nat} (hk : k ≤ n) : EntRow w A k cap (l.take k) := by
  refine ⟨by rw [List.length_take, h.len]; omega, Nat.le_trans hk h.le, h.max, h.nil, fun e he => h.ok e (List.mem_of_mem_take he), fun hp => ?_⟩
  obtain ⟨b, off, e, hlt, hc⟩ := h.cells (by omega)
  refine ⟨b, off, e, hlt, fun j hj => ?_⟩
  have := hc j (by omega)
  have e2 : (l.take k).getD j Ent.zero = l.getD j Ent.zero := by rw [List.getD_eq_getElem?_getD, List.getD_eq_getElem?_getD, List.getElem?_take, if_pos hj]
  rw [e2]
  exact this
theorem sliceE_hi {A : Option Addr} {n cap k : Nat} (h : k ≤ cap) (w : World) : (Instr.slice 22 (.slice A n cap) none (some (.int .i64 (k : Int))) none).run Tryd.prog w = .ok (.slice A k cap) w := by
  rw [run_slice_h w 22 A n cap Tryd.underlying22 .i64 (k : Int) (by omega) (by omega), sizeE]
  simp only [Result.andThen, sliced]
  congr 2
  · cases A with
    | none => simp
    | some a =>
      split
      · rfl
      · simp [addr_zero]
/-- A row made of the cells that lie at a block's beginning. -/
theorem EntRow.lit (u : World) (l : List Ent) (n : Nat) (hn : l.length = n) (hn2 : n ≤ 1000) (hok : ∀ e ∈ l, e.ok) (cs : Array Value) (hc : cs.toList = entV l) (ty : TypeId) : EntRow (u.alloc (.cells cs ty)) (some ⟨u.heap.size, 0, Option.none⟩) n n l := by
  refine ⟨hn, Nat.le_refl _, by unfold maxLen; omega, fun h => (by cases h), hok, fun hp => ⟨u.heap.size, 0, rfl, by simp, fun j hj => ?_⟩⟩
  have c : ∀ i, i < 8 → (u.alloc (.cells cs ty)).cell? ⟨u.heap.size, 0 + j * 8 + i, Option.none⟩ = (l.getD j Ent.zero).cl[i]? := fun i hi => by
    rw [← entV_get l j i (by omega) hi, ← hc, Nat.zero_add]
    simp
  exact ⟨c 0 (by decide), c 1 (by decide), c 2 (by decide), c 3 (by decide), c 4 (by decide), c 5 (by decide), c 6 (by decide), c 7 (by decide)⟩
end Go.Proofs.YtdpoahjgdndnhaaDoor
