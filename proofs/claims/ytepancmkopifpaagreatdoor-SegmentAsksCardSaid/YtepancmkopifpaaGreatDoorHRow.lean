/-
  Rows of samples, and slices.Clone, Grow, Concat, Equal over them: what each returns; nothing that was there is written.
-/
import Derived.Test.YtepancmkopifpaaGreatDoorTRow
import Derived.Lib.AppendZerosOnto
import Derived.Laws.AppendOwn
import Derived.Laws.OwnMore
import Derived.Lib.SliceRun
set_option maxRecDepth 100000
namespace Go.Proofs.YtepancmkopifpaaGreatDoor
open Go.RowKit
attribute [local go_sem ↓] Go.wp_at_zero Go.wp_at_succ
set_option linter.unusedVariables false

/-- A slice (at A, of that room) reads as the samples l. -/
structure Row (w : World) (A : Option Addr) (cap : Nat) (l : List (Int × Int)) : Prop where
  samps : Samps w A l
  le : l.length ≤ cap
  max : cap ≤ maxLen
  nil : A = none → cap = 0
theorem Row.below {w w' : World} {A : Option Addr} {cap : Nat} {l : List (Int × Int)} (h : Row w A cap l) (hb : Below w.heap.size w w') : Row w' A cap l := ⟨h.samps.below hb, h.le, h.max, h.nil⟩
theorem Row.none (w : World) : Row w none 0 [] := ⟨⟨fun s hs => by simp at hs, fun h => by simp at h⟩, Nat.le_refl _, Nat.zero_le _, fun _ => rfl⟩
theorem row_of_own {w : World} {base n : Nat} {v : Value} {l : List (Int × Int)} (h : w.ownsRow base 48 2 v n (sampV l)) (hb : In2 l) : ∃ A cap, v = .slice A n cap ∧ Row w A cap l ∧ l.length = n ∧ ∀ a, A = some a → base ≤ a.block := by
  have hn : l.length = n := by have := h.1; rw [sampV_length] at this; omega
  rcases h.2 with ⟨e, e0⟩ | ⟨g, cap, cur, e, hbg, hh, h1, h2, _⟩
  · subst e0
    obtain rfl : l = [] := List.length_eq_zero_iff.1 hn
    exact ⟨Option.none, 0, e, Row.none w, rfl, fun a h => by cases h⟩
  · subst e
    obtain ⟨s1, s2, s3, s4, s5, s6⟩ := Samps.own h hb
    exact ⟨some ⟨g, 0, Option.none⟩, cap, rfl, ⟨s1, by omega, s4, fun e => by cases e⟩, hn, fun a h => by injection h with h; subst h; exact hbg⟩
/-- What a call gives out: a row that reads as l, in memory from F on; nothing that was there is written. -/
structure Out (w w' : World) (F : Nat) (A : Option Addr) (cap : Nat) (l : List (Int × Int)) : Prop where
  row : Row w' A cap l
  fresh : ∀ a, A = some a → F ≤ a.block
  below : Below w.heap.size w w'
theorem Out.start {w w1 w' : World} {F : Nat} {A : Option Addr} {cap : Nat} {l : List (Int × Int)} (h : Out w1 w' F A cap l) (hb : Below w.heap.size w w1) : Out w w' F A cap l := ⟨h.row, h.fresh, past hb h.below⟩
theorem Out.low {w w' : World} {F F' : Nat} {A : Option Addr} {cap : Nat} {l : List (Int × Int)} (h : Out w w' F A cap l) (hF : F' ≤ F) : Out w w' F' A cap l := ⟨h.row, fun a e => Nat.le_trans hF (h.fresh a e), h.below⟩
theorem Out.on {w w' w2 : World} {F : Nat} {A : Option Addr} {cap : Nat} {l : List (Int × Int)} (h : Out w w' F A cap l) (hb : Below w'.heap.size w' w2) : Out w w2 F A cap l := ⟨h.row.below hb, h.fresh, past h.below hb⟩
theorem Row.kept {w w' : World} {A : Option Addr} {cap : Nat} {l : List (Int × Int)} (h : Row w A cap l) (hk : ∀ a, A = some a → w'.heap[a.block]? = w.heap[a.block]?) : Row w' A cap l := by
  refine ⟨⟨h.samps.1, fun hp => ?_⟩, h.le, h.max, h.nil⟩
  obtain ⟨b, off, e, hc⟩ := h.samps.2 hp
  refine ⟨b, off, e, fun j hj => ?_⟩
  have hb := hk _ e
  obtain ⟨h0, h1⟩ := hc j hj
  exact ⟨(World.cell?_of_block (w := w) (w' := w') (a := ⟨b, off + j * 2, Option.none⟩) hb).trans h0, (World.cell?_of_block (w := w) (w' := w') (a := ⟨b, off + j * 2 + 1, Option.none⟩) hb).trans h1⟩
theorem Out.set_ {w w' : World} {F : Nat} {A : Option Addr} {cap : Nat} {l : List (Int × Int)} (h : Out w w' F A cap l) (p : Addr) (u : Value) (h1 : w.heap.size ≤ p.block) (h2 : p.block < F) : Out w (w'.setCell p u) F A cap l :=
  ⟨h.row.kept (fun a e => Below.heap_setCell _ _ _ _ (by have := h.fresh a e; omega)), h.fresh, h.below.setCell h1 u⟩

/-- append(v, x...) of rows of samples. -/
theorem wpList_append_samps {w : World} {ops : Array Oper} {rest : List Oper} {o : Oper} {a : Act} {Q : Exit → Act → World → Prop} (hgd : o.guard = none) (s x : Operand)
    (ho : o.op = .call { callee := .builtin .append, args := #[s, x], argTypes := #[22, 22] }) (base : Nat) (v : Value) (n m : Nat) (l l2 : List (Int × Int)) (hs : a.eval s = v) (hown : w.ownsRow base 48 2 v n (sampV l))
    (B : Option Addr) (c : Nat) (hx : a.eval x = .slice B m c) (hm : l2.length = m) (hr : Row w B c l2) (hlen : n + m ≤ 100000) (hbase : base ≤ w.heap.size)
    (h : ∀ v' w', w'.ownsRow base 48 2 v' (n + m) (sampV (l ++ l2)) → w.grownBy w' v.ownBlock → wpList Tryz.prog ops Q rest (a.put o.dst v') w') : wpList Tryz.prog ops Q (o :: rest) a w := by
  obtain ⟨i0', hi, hz0, hz1, hz2⟩ := info_parts Tryz.info48
  cases B with
  | none =>
    have hc := hr.nil rfl
    subst hc
    obtain rfl : m = 0 := by have := hr.le; omega
    obtain rfl : l2 = [] := List.length_eq_zero_iff.1 hm
    refine wpList_append_own_none hgd s x 22 ho base 48 i0' 2 Tryz.underlying22 hi v n (sampV l) hs hown hx ?_
    refine h v w ?_ ⟨rfl, rfl, rfl, Nat.le_refl _, fun _ _ _ => rfl⟩
    rw [List.append_nil]
    exact hown
  | some ad =>
    refine wpList_append_own w hgd s x 22 ho base 48 i0' (.agg #[.int .i64 0, .int .i64 0]) 2 16 Tryz.underlying22 hi hz0 hz1 hz2 rfl (by decide) v n (sampV l) hs hown ad m c (sampV l2) hx (by rw [sampV_length, hm]) ?_ (sampV_one _) (by unfold maxLen; omega) (by omega) hbase ?_
    · intro j u hj
      have hl : 0 < l2.length := by
        rcases Nat.eq_zero_or_pos l2.length with e | e
        · rw [List.length_eq_zero_iff.1 e] at hj; simp [sampV] at hj
        · exact e
      obtain ⟨b, off, e, _⟩ := hr.samps.2 hl
      injection e with e
      subst e
      exact hr.samps.news j u hj
    · intro v' w' h1 h2 _
      exact h v' w' (by rw [sampV_append]; exact h1) h2

theorem eqNil (A : Option Addr) (n c : Nat) (w : World) : (binOp .eql 22 (.slice A n c) (.slice none 0 0)).run Tryz.prog w = .ok (.bool A.isNone) w := Lib.run_eql_slice_nil w 22 48 A n c 0 0 Tryz.underlying22

/-! slices.Equal of two rows that read as the same samples; of two rows that are unlike in length. -/
set_option maxRecDepth 100000 in
set_option maxHeartbeats 1000000 in
theorem equal_in (b off b2 off2 n ca cb : Nat) (l : List (Int × Int)) (w : World) (hl : l.length = n) (hc : n ≤ ca) (hc2 : n ≤ cb) (hm : ca ≤ maxLen) (hm2 : cb ≤ maxLen) (h0 : 0 < n)
    (h1 : Samps w (some ⟨b, off, none⟩) l) (h2 : Samps w (some ⟨b2, off2, none⟩) l) :
    Calls Tryz.prog 50 #[.slice (some ⟨b, off, none⟩) n ca, .slice (some ⟨b2, off2, none⟩) n cb] w fun e w' => e = .returned (.bool true) ∧ Below w.heap.size w w' := by
  unfold maxLen at hm hm2
  have H1 : Hid (∀ w', Below w.heap.size w w' → ∀ j, j < n → w'.cell? ⟨b, off + j * 2, none⟩ = some (.int .i64 (l.getD j (0, 0)).1) ∧ w'.cell? ⟨b, off + j * 2 + 1, none⟩ = some (.int .i64 (l.getD j (0, 0)).2)) := Lib.hid (fun w' hb j hj => by
    obtain ⟨b', o', e, hcc⟩ := (h1.below hb).2 (by rw [hl]; exact h0)
    injection e with e
    injection e with e1 e2
    subst e1 e2
    exact hcc j (by rw [hl]; exact hj))
  have H2 : Hid (∀ w', Below w.heap.size w w' → ∀ j, j < n → w'.cell? ⟨b2, off2 + j * 2, none⟩ = some (.int .i64 (l.getD j (0, 0)).1) ∧ w'.cell? ⟨b2, off2 + j * 2 + 1, none⟩ = some (.int .i64 (l.getD j (0, 0)).2)) := Lib.hid (fun w' hb j hj => by
    obtain ⟨b', o', e, hcc⟩ := (h2.below hb).2 (by rw [hl]; exact h0)
    injection e with e
    injection e with e1 e2
    subst e1 e2
    exact hcc j (by rw [hl]; exact hj))
  have h0i : (0 : Int) < (n : Int) := by omega
  clear h1 h2 hl
  go_enter Tryz.func50, Tryz.ntmps50
  go_wp2
  go_loopw [13] (fun si wr => ∃ (k : Nat), k ≤ n ∧ si = .int .i64 (k : Int) ∧ Hid (Below w.heap.size w wr)) (fun si _ => n - (intOf si).toNat)
  case atStart => exact ⟨0, by omega, rfl, Lib.hid (Below.refl _ _)⟩
  case round =>
    obtain ⟨k, hk, rfl, HW⟩ := hrel
    by_cases hlt : k < n
    · obtain ⟨c0, c1⟩ := H1.out wr HW.out k hlt
      obtain ⟨e0, e1⟩ := H2.out wr HW.out k hlt
      generalize l.getD k (0, 0) = a at c0 c1 e0 e1
      have i1 : (0 : Int) ≤ (k : Int) := by omega
      have i2 : (k : Int) < (n : Int) := by omega
      go_upto_region 6 with fail
      go_quiet (fail)
      have HW2 := Lib.hid (past HW.out (belowN wr nq))
      clear c0 c1 e0 e1
      generalize wr.drewN nq = wz at *
      go_wp2
      go_roundw
      case rel => exact ⟨k + 1, by omega, by go_num, HW2⟩
      case measure => simp [intOf]; omega
    · go_wp2
      (try rw [Exit.noGoto_ret])
      go_ret
      exact ⟨rfl, HW.out⟩

set_option maxRecDepth 100000 in
theorem equal_none (A B : Option Addr) (ca cb : Nat) (w : World) : Calls Tryz.prog 50 #[.slice A 0 ca, .slice B 0 cb] w fun e w' => e = .returned (.bool true) ∧ Below w.heap.size w w' := by
  go_enter Tryz.func50, Tryz.ntmps50
  go_wp2
  refine wp_loop_rounds 1 ?_
  rw [rounds_succ]
  go_wp2
  (try rw [Exit.noGoto_ret])
  go_ret
  exact ⟨rfl, Below.refl _ _⟩

theorem equal_any {A B : Option Addr} {n ca cb : Nat} {l : List (Int × Int)} {w : World} (hl : l.length = n) (h1 : Samps w A l) (h2 : Samps w B l) (hc : n ≤ ca) (hc2 : n ≤ cb) (hm : ca ≤ maxLen) (hm2 : cb ≤ maxLen) :
    Calls Tryz.prog 50 #[.slice A n ca, .slice B n cb] w fun e w' => e = .returned (.bool true) ∧ Below w.heap.size w w' := by
  by_cases h0 : 0 < n
  · obtain ⟨b, off, rfl, _⟩ := h1.2 (by omega)
    obtain ⟨b2, off2, rfl, _⟩ := h2.2 (by omega)
    exact equal_in b off b2 off2 n ca cb l w hl hc hc2 hm hm2 h0 h1 h2
  · obtain rfl : n = 0 := by omega
    exact equal_none A B ca cb w

set_option maxRecDepth 100000 in
theorem equal_len (A B : Option Addr) (n m ca cb : Nat) (w : World) (h : n ≠ m) (hn : n ≤ 1000) (hm : m ≤ 1000) : Calls Tryz.prog 50 #[.slice A n ca, .slice B m cb] w fun e w' => e = .returned (.bool false) ∧ w = w' := by
  have i1 : ((n : Int) != (m : Int)) = true := by simp; omega
  go_enter Tryz.func50, Tryz.ntmps50
  go_wp2
  (try simp only [Exit.inBlock, Exit.then])
  go_ret
  exact ⟨rfl, rfl⟩
end Go.Proofs.YtepancmkopifpaaGreatDoor
