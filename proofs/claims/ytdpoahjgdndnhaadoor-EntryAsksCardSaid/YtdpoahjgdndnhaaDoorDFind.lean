/-
  Rows of segments told: what an own row reads, append of one to another, their parts; find, has, insert.
  The document's find, has, insert: what each returns; nothing that was there is written.
-/
import Derived.Test.YtdpoahjgdndnhaaDoorLRow
import Derived.Test.YtdpoahjgdndnhaaDoorEInfos
import Derived.Laws.AppendOwnNone
import Derived.Deep.AppendLies
import Derived.Test.YtdpoahjgdndnhaaDoorDMayE
import Derived.Test.YtdpoahjgdndnhaaDoorERowsW
import Derived.BigQuiet
set_option maxRecDepth 100000
namespace Go.Proofs.YtdpoahjgdndnhaaDoor
open Go.RowKit
attribute [local go_sem ↓] Go.wp_at_zero Go.wp_at_succ
set_option linter.unusedVariables false

theorem infsV_cons (x : Inf) (l : List Inf) : infsV (x :: l) = x.enc ++ infsV l := rfl
theorem infsV_at (l : List Inf) : ∀ (j i : Nat), j < l.length → i < 5 → (infsV l)[j * 5 + i]? = (l.getD j Inf.zero).enc[i]? := by
  induction l with
  | nil => intro j i hj; simp at hj
  | cons a r ih =>
    intro j i hj hi
    rw [infsV_cons]
    match j with
    | 0 =>
      rw [List.getElem?_append_left (by show 0 * 5 + i < 5; omega)]
      simp
    | j + 1 =>
      rw [List.getElem?_append_right (by show 5 ≤ (j + 1) * 5 + i; omega)]
      have e : (j + 1) * 5 + i - a.enc.length = j * 5 + i := by
        show (j + 1) * 5 + i - 5 = _
        omega
      rw [e, ih j i (by simpa using hj) hi]
      simp
theorem infRow_own {w : World} {base n : Nat} {v : Value} {l : List Inf} (h : w.ownsRow base 50 5 v n (infsV l)) : ∃ A cap, v = .slice A n cap ∧ InfRow w A n cap l ∧ ∀ a, A = some a → base ≤ a.block ∧ a.block < w.heap.size := by
  have hn : l.length = n := by have := h.1; rw [infsV_length] at this; omega
  rcases h.2 with ⟨e, e0⟩ | ⟨g, cap, cur, e, hbg, hh, h1, h2, _⟩
  · subst e0
    obtain rfl : l = [] := List.length_eq_zero_iff.1 hn
    exact ⟨Option.none, 0, e, InfRow.none w, fun a h => by cases h⟩
  · subst e
    have hlt : g < w.heap.size := (Array.getElem?_eq_some_iff.1 hh).1
    refine ⟨some ⟨g, 0, Option.none⟩, cap, rfl, ⟨hn, h1, h2, fun e => (by cases e), fun hp => ⟨g, 0, rfl, hlt, fun j hj => ?_⟩⟩, fun a h => by injection h with h; subst h; exact ⟨hbg, hlt⟩⟩
    have c : ∀ i, i < 5 → w.cell? ⟨g, 0 + j * 5 + i, Option.none⟩ = (l.getD j Inf.zero).enc[i]? := fun i hi => by
      rw [Nat.zero_add, h.cellAt (j * 5 + i) (by omega)]
      exact infsV_at l j i (by omega) hi
    exact ⟨c 0 (by decide), c 1 (by decide), c 2 (by decide), c 3 (by decide), c 4 (by decide)⟩
theorem InfRow.news {w : World} {ad : Addr} {n cap : Nat} {l : List Inf} (h : InfRow w (some ad) n cap l) : ∀ q u, (infsV l)[q]? = some u → w.cell? (ad.add q) = some u := by
  intro q u hq
  have hlt : q < l.length * 5 := by
    rcases Nat.lt_or_ge q (l.length * 5) with e | e
    · exact e
    · rw [List.getElem?_eq_none (by rw [infsV_length]; exact e)] at hq; cases hq
  have hl := h.len
  obtain ⟨b, off, e0, _, hc⟩ := h.cells (by omega)
  injection e0 with e0
  subst e0
  have e : q = q / 5 * 5 + q % 5 := by omega
  have hj : q / 5 < l.length := by omega
  have hi : q % 5 < 5 := by omega
  rw [e, infsV_at l _ _ hj hi] at hq
  rw [addr_add, e]
  obtain ⟨c0, c1, c2, c3, c4⟩ := hc (q / 5) (by omega)
  generalize q / 5 = j at *
  generalize q % 5 = i at *
  rw [← Nat.add_assoc]
  unfold Inf.enc at hq
  match i, hi with
  | 0, _ => exact c0.trans hq
  | 1, _ => exact c1.trans hq
  | 2, _ => exact c2.trans hq
  | 3, _ => exact c3.trans hq
  | 4, _ => exact c4.trans hq
/-- append(v, x...) of rows of segments told. -/
theorem wp_append_infs {w : World} {o : Oper} {a : Act} {K : Act → World → Prop} {Q : Exit → Act → World → Prop} (s x : Operand)
    (ho : o.op = .call { callee := .builtin .append, args := #[s, x], argTypes := #[36, 36] }) (base : Nat) (v : Value) (n m : Nat) (l l2 : List Inf) (hs : a.eval s = v) (hown : w.ownsRow base 50 5 v n (infsV l))
    (B : Option Addr) (c : Nat) (hx : a.eval x = .slice B m c) (hr : InfRow w B m c l2) (hlen : n + m ≤ 1000000) (hbase : base ≤ w.heap.size)
    (h : ∀ v' w', w'.ownsRow base 50 5 v' (n + m) (infsV (l ++ l2)) → w.grownBy w' v.ownBlock → K (a.put o.dst v') w') : Oper.wp Tryd.prog o a w K Q := by
  obtain ⟨i0', hi, hz0, hz1, hz2⟩ := info_parts Tryd.info50
  have hm := hr.len
  cases B with
  | none =>
    have hc := hr.nil rfl
    subst hc
    obtain rfl : m = 0 := by have := hr.le; omega
    obtain rfl : l2 = [] := List.length_eq_zero_iff.1 hm
    have hrun := run_append_owned_none (P := Tryd.prog) (w := w) base 36 o.type 50 i0' 5 Tryd.underlying36 hi v n (infsV l) hown
    unfold Oper.wp
    simp [execOp, ho, resolve, invoke, builtin, hs, hx, hrun, Result.andThen]
    refine h v w ?_ ⟨rfl, rfl, rfl, Nat.le_refl _, fun _ _ _ => rfl⟩
    rw [List.append_nil]
    exact hown
  | some ad =>
    refine wp_append_own w s x 36 ho base 50 i0' Inf.zero.val 5 40 Tryd.underlying36 hi hz0 hz1 hz2 rfl (by decide) v n (infsV l) hs hown ad m c (infsV l2) hx (by rw [infsV_length, hm]) (fun q u hq => hr.news q u hq) (infsV_one _) (by unfold maxLen; omega) (by omega) hbase ?_
    intro v' w' h1 h2 _
    exact h v' w' (by rw [infsV_append]; exact h1) h2
theorem wpList_append_infs {w : World} {ops : Array Oper} {rest : List Oper} {o : Oper} {a : Act} {Q : Exit → Act → World → Prop} (hgd : o.guard = none) (s x : Operand)
    (ho : o.op = .call { callee := .builtin .append, args := #[s, x], argTypes := #[36, 36] }) (base : Nat) (v : Value) (n m : Nat) (l l2 : List Inf) (hs : a.eval s = v) (hown : w.ownsRow base 50 5 v n (infsV l))
    (B : Option Addr) (c : Nat) (hx : a.eval x = .slice B m c) (hr : InfRow w B m c l2) (hlen : n + m ≤ 1000000) (hbase : base ≤ w.heap.size)
    (h : ∀ v' w', w'.ownsRow base 50 5 v' (n + m) (infsV (l ++ l2)) → w.grownBy w' v.ownBlock → wpList Tryd.prog ops Q rest (a.put o.dst v') w') : wpList Tryd.prog ops Q (o :: rest) a w :=
  wpList_plain hgd fun _ hK => wp_append_infs s x ho base v n m l l2 hs hown B c hx hr hlen hbase fun v' w' h1 h2 => hK _ _ (h v' w' h1 h2)
theorem step_append_infs {w : World} {ops : Array Oper} {o : Oper} {a : Act} {K : Act → World → Prop} {Q : Exit → Act → World → Prop} {E : Prop} (hgd : o.guard = none) (s x : Operand)
    (ho : o.op = .call { callee := .builtin .append, args := #[s, x], argTypes := #[36, 36] }) (base : Nat) (v : Value) (n m : Nat) (l l2 : List Inf) (hs : a.eval s = v) (hown : w.ownsRow base 50 5 v n (infsV l))
    (B : Option Addr) (c : Nat) (hx : a.eval x = .slice B m c) (hr : InfRow w B m c l2) (hlen : n + m ≤ 1000000) (hbase : base ≤ w.heap.size)
    (h : ∀ v' w', w'.ownsRow base 50 5 v' (n + m) (infsV (l ++ l2)) → w.grownBy w' v.ownBlock → K (a.put o.dst v') w') : if Region.wanted o (yielded ops a.tmps) = true then Oper.wp Tryd.prog o a w K Q else E := by
  have hw : Region.wanted o (yielded ops a.tmps) = true := by simp [Region.wanted, hgd]
  rw [if_pos hw]
  exact wp_append_infs s x ho base v n m l l2 hs hown B c hx hr hlen hbase h
theorem own_emptyI (w : World) : (w.alloc (.cells #[] 50)).ownsRow w.heap.size 50 5 (.slice (some ⟨w.heap.size, 0, none⟩) 0 0) 0 (infsV []) :=
  World.ownsRow_lit (size := 5) (e := 50) w #[] 0 (Nat.le_refl _) (Nat.zero_le _) rfl
theorem below_appI {w8 w9 : World} (hg : (w8.alloc (.cells #[] 50)).grownBy w9 (Value.slice (some ⟨w8.heap.size, 0, none⟩) 0 0).ownBlock) : Below w8.heap.size w8 w9 :=
  (past_alloc (Below.refl _ _) _).grown hg (by simp) (fun k e => by
    simp only [Value.ownBlock, Option.some.injEq] at e
    omega)
theorem row_inf (x : Inf) (u : World) : InfRow (u.alloc (.cells #[.int .i64 x.id, .int .i64 x.tr, .int .i64 x.fr, .int .i64 x.tl, .int .u32 x.sm] 50)) (some ⟨u.heap.size, 0, Option.none⟩) 1 1 [x] := by
  refine ⟨rfl, Nat.le_refl _, by unfold maxLen; omega, fun h => (by cases h), fun hp => ⟨u.heap.size, 0, rfl, by simp, fun j hj => ?_⟩⟩
  obtain rfl : j = 0 := by omega
  simp
theorem sizeI (w : World) : (Go.sizeOf (Tryd.prog.elem 36)).run Tryd.prog w = .ok 5 w := by kernel_rfl
theorem InfRow.take {w : World} {A : Option Addr} {n cap : Nat} {l : List Inf} (h : InfRow w A n cap l) {k : Nat} (hk : k ≤ n) : InfRow w A k cap (l.take k) := by
  refine ⟨by rw [List.length_take, h.len]; omega, Nat.le_trans hk h.le, h.max, h.nil, fun hp => ?_⟩
  obtain ⟨b, off, e, hlt, hc⟩ := h.cells (by omega)
  refine ⟨b, off, e, hlt, fun j hj => ?_⟩
  have := hc j (by omega)
  have e2 : (l.take k).getD j Inf.zero = l.getD j Inf.zero := by rw [List.getD_eq_getElem?_getD, List.getD_eq_getElem?_getD, List.getElem?_take, if_pos hj]
  rw [e2]
  exact this
theorem sliceI_hi {A : Option Addr} {n cap k : Nat} (h : k ≤ cap) (w : World) : (Instr.slice 36 (.slice A n cap) none (some (.int .i64 (k : Int))) none).run Tryd.prog w = .ok (.slice A k cap) w := by
  rw [run_slice_h w 36 A n cap Tryd.underlying36 .i64 (k : Int) (by omega) (by omega), sizeI]
  simp only [Result.andThen, sliced]
  congr 2
  · cases A with
    | none => simp
    | some a =>
      split
      · rfl
      · simp [addr_zero]
theorem sliceI_lo {A : Option Addr} {n cap lo : Nat} {l : List Inf} {w : World} (hr : InfRow w A n cap l) (h : lo ≤ n) :
    ∃ A2, (∀ w, (Instr.slice 36 (.slice A n cap) (some (.int .i64 (lo : Int))) none none).run Tryd.prog w = .ok (.slice A2 (n - lo) (cap - lo)) w) ∧ InfRow w A2 (n - lo) (cap - lo) (l.drop lo) := by
  have hc := hr.le
  refine ⟨if cap = lo then A else A.map (·.add (lo * 5)), fun w => ?_, ⟨?_, ?_, ?_, fun e => ?_, fun hp => ?_⟩⟩
  · rw [run_slice_l w 36 A n cap Tryd.underlying36 .i64 (lo : Int) (by omega) (by omega), sizeI]
    simp [Result.andThen, sliced]
  · rw [List.length_drop, hr.len]
  · omega
  · have := hr.max; omega
  · split at e
    · have := hr.nil e; omega
    · have := hr.nil (by cases A with
        | none => rfl
        | some a => simp at e)
      omega
  · obtain ⟨b, off, rfl, hlt, hcell⟩ := hr.cells (by omega)
    rw [if_neg (by omega)]
    refine ⟨b, off + lo * 5, by rw [Option.map_some, addr_add], hlt, fun j hj => ?_⟩
    have := hcell (lo + j) (by omega)
    have e2 : (l.drop lo).getD j Inf.zero = l.getD (lo + j) Inf.zero := by rw [List.getD_eq_getElem?_getD, List.getD_eq_getElem?_getD, List.getElem?_drop]
    rw [e2, show off + lo * 5 + j * 5 = off + (lo + j) * 5 by omega]
    exact this
end Go.Proofs.YtdpoahjgdndnhaaDoor
set_option maxRecDepth 100000
namespace Go.Proofs.YtdpoahjgdndnhaaDoor
open Go.RowKit
attribute [local go_sem ↓] Go.wp_at_zero Go.wp_at_succ
set_option linter.unusedVariables false

/-- Where the first of this Id stands, from k on; -1: nowhere. -/
def fnd (i : Int) : Nat → List Inf → Int
  | _, [] => -1
  | k, x :: r => if x.id = i then (k : Int) else fnd i (k + 1) r
theorem getD_inf {l : List Inf} {k : Nat} (h : k < l.length) : l.drop k = l.getD k Inf.zero :: l.drop (k + 1) := by
  rw [List.drop_eq_getElem_cons h, List.getD_eq_getElem?_getD, List.getElem?_eq_getElem h]
  rfl
set_option maxHeartbeats 2000000 in
theorem find_any {A : Option Addr} {n cap : Nat} {l : List Inf} (i : Int) {w : World} (h : InfRow w A n cap l) :
    Calls Tryd.prog 51 #[.slice A n cap, .int .i64 i] w fun e w' => e = .returned (.int .i64 (fnd i 0 l)) ∧ w = w' := by
  have hm := h.max
  have hc := h.le
  unfold maxLen at hm
  have HL := Lib.hid h.len
  have H1 := Lib.hid h.cells
  obtain ⟨R, hR⟩ : ∃ R, R = fnd i 0 l := ⟨_, rfl⟩
  rw [← hR]
  have HR : Hid (R = fnd i 0 (l.drop 0)) := Lib.hid (by rw [List.drop_zero]; exact hR)
  clear h hR
  go_enter Tryd.func51, Tryd.ntmps51
  go_wp2
  go_loopw [5] (fun s5 wr => ∃ (k : Nat), s5 = .int .i64 (k : Int) ∧ k ≤ n ∧ Hid (R = fnd i k (l.drop k)) ∧ Hid (w = wr)) (fun s5 _ => n - (intOf s5).toNat)
  case atStart => exact ⟨0, rfl, by omega, HR, Lib.hid rfl⟩
  case round =>
    obtain ⟨k, rfl, hk, HE, HW⟩ := hrel
    by_cases hlt : k < n
    · obtain ⟨b, off, rfl, _, hcell⟩ := H1.out (by omega)
      have c0 := (hcell k hlt).1
      clear hcell
      rw [HW.out] at c0
      have HD := Lib.hid (getD_inf (l := l) (k := k) (by rw [HL.out]; exact hlt))
      obtain ⟨y, hy⟩ : ∃ y, (l.getD k Inf.zero).id = y := ⟨_, rfl⟩
      rw [hy] at c0
      have HY := Lib.hid hy
      clear hy
      have k1 : (k : Int) < (n : Int) := by omega
      have e1 : off + k * 5 + 0 = off + k * 5 := rfl
      by_cases hyi : y = i
      · have HF : Hid (R = (k : Int)) := Lib.hid (by rw [HE.out, HD.out, fnd, if_pos (by rw [HY.out]; exact hyi)])
        have q1 : (y == i) = true := by simpa using hyi
        clear HE HD HY hyi H1
        go_wp2
        (try rw [Exit.noGoto_ret])
        go_ret
        exact ⟨by rw [HF.out]; rfl, HW.out⟩
      · have HF : Hid (R = fnd i (k + 1) (l.drop (k + 1))) := Lib.hid (by rw [HE.out, HD.out, fnd, if_neg (by rw [HY.out]; exact hyi)])
        have q1 : (y == i) = false := by simpa using hyi
        clear HE HD HY hyi H1
        go_wp2
        go_roundw
        case rel => exact ⟨k + 1, by go_num, by omega, HF, HW⟩
        case measure => simp [intOf]; omega
    · have HF : Hid (R = -1) := Lib.hid (by rw [HE.out, List.drop_eq_nil_of_le (by rw [HL.out]; omega)]; rfl)
      have k1 : ¬ (k : Int) < (n : Int) := by omega
      clear HE H1
      go_wp2
      (try rw [Exit.noGoto_ret])
      go_ret
      exact ⟨by rw [HF.out]; rfl, HW.out⟩

theorem own_base {w : World} {base base' n size : Nat} {e : TypeId} {v : Value} {xs : List Value} (h : w.ownsRow base e size v n xs) (hb : base' ≤ base) : w.ownsRow base' e size v n xs := by
  refine ⟨h.1, ?_⟩
  rcases h.2 with h | ⟨g, cap, cur, e1, e2, r⟩
  · exact .inl h
  · exact .inr ⟨g, cap, cur, e1, Nat.le_trans hb e2, r⟩
theorem ownRow_below {w w' : World} {base n size : Nat} {e : TypeId} {v : Value} {xs : List Value} (h : w.ownsRow base e size v n xs) (hb : Below w.heap.size w w') : w'.ownsRow base e size v n xs := by
  refine ⟨h.1, ?_⟩
  rcases h.2 with h | ⟨g, cap, cur, e1, e2, e3, r⟩
  · exact .inl h
  · exact .inr ⟨g, cap, cur, e1, e2, by rw [hb.block g (Array.getElem?_eq_some_iff.1 e3).1]; exact e3, r⟩
/-- What an own row of numbers reads. -/
theorem int_own {w : World} {base : Nat} {v : Value} {l : List Int} (h : w.ownsRow base 3 1 v l.length (intV l)) : ∃ A cap, v = .slice A l.length cap ∧ l.length ≤ cap ∧ cap ≤ maxLen ∧ (0 < l.length → ∃ g, A = some ⟨g, 0, none⟩ ∧ ∀ j, j < l.length → w.cell? ⟨g, j, none⟩ = some (.int .i64 (l.getD j 0))) := by
  have hc : ∀ j, j < l.length → ∀ g cap, v = .slice (some ⟨g, 0, none⟩) l.length cap → w.cell? ⟨g, j, none⟩ = some (.int .i64 (l.getD j 0)) := fun j hj g cap e => by
    subst e
    rw [h.cellAt j (by omega), intV_get hj]
  rcases h.2 with ⟨e, e0⟩ | ⟨g, cap, cur, e, hbg, hh, h1, h2, _⟩
  · exact ⟨Option.none, 0, by rw [e0]; exact e, by omega, by unfold maxLen; omega, fun hp => by omega⟩
  · exact ⟨_, cap, e, h1, h2, fun hp => ⟨g, rfl, fun j hj => hc j hj g cap e⟩⟩
set_option maxHeartbeats 2000000 in
theorem has_any {base : Nat} {v : Value} {l : List Int} (i : Int) {w : World} (h : w.ownsRow base 3 1 v l.length (intV l)) :
    Calls Tryd.prog 52 #[v, .int .i64 i] w fun e w' => e = .returned (.bool (decide (i ∈ l))) ∧ w = w' := by
  obtain ⟨A, cap, rfl, hc, hm, hcell⟩ := int_own h
  unfold maxLen at hm
  have H1 := Lib.hid hcell
  obtain ⟨R, hR⟩ : ∃ R, R = decide (i ∈ l) := ⟨_, rfl⟩
  rw [← hR]
  have HR := Lib.hid hR
  obtain ⟨n, hn⟩ : ∃ n, l.length = n := ⟨_, rfl⟩
  have HL := Lib.hid hn
  rw [hn] at hc H1 ⊢
  clear h hR hn hcell
  go_enter Tryd.func52, Tryd.ntmps52
  go_wp2
  go_loopw [5] (fun s5 wr => ∃ (k : Nat), s5 = .int .i64 (k : Int) ∧ k ≤ n ∧ Hid (∀ j, j < k → l.getD j 0 ≠ i) ∧ Hid (w = wr)) (fun s5 _ => n - (intOf s5).toNat)
  case atStart => exact ⟨0, rfl, by omega, Lib.hid (fun j hj => by omega), Lib.hid rfl⟩
  case round =>
    obtain ⟨k, rfl, hk, HE, HW⟩ := hrel
    by_cases hlt : k < n
    · obtain ⟨g, rfl, hcell⟩ := H1.out (by omega)
      have c0 := hcell k hlt
      clear hcell
      rw [HW.out] at c0
      obtain ⟨y, hy⟩ : ∃ y, l.getD k 0 = y := ⟨_, rfl⟩
      rw [hy] at c0
      have HY := Lib.hid hy
      clear hy
      have k1 : (k : Int) < (n : Int) := by omega
      by_cases hyi : y = i
      · have HF : Hid (R = true) := Lib.hid (by
          rw [HR.out]
          refine decide_eq_true ?_
          rw [← hyi, ← HY.out, List.getD_eq_getElem?_getD, List.getElem?_eq_getElem (by rw [HL.out]; exact hlt)]
          exact List.getElem_mem _)
        have q1 : (y == i) = true := by simpa using hyi
        clear HE HY hyi H1
        go_wp2
        (try rw [Exit.noGoto_ret])
        go_ret
        exact ⟨by rw [HF.out]; rfl, HW.out⟩
      · have HF : Hid (∀ j, j < k + 1 → l.getD j 0 ≠ i) := Lib.hid (fun j hj => by
          rcases Nat.lt_or_eq_of_le (Nat.le_of_lt_succ hj) with h2 | h2
          · exact HE.out j h2
          · rw [h2, HY.out]; exact hyi)
        have q1 : (y == i) = false := by simpa using hyi
        clear HE HY hyi H1
        go_wp2
        go_roundw
        case rel => exact ⟨k + 1, by go_num, by omega, HF, HW⟩
        case measure => simp [intOf]; omega
    · have HF : Hid (R = false) := Lib.hid (by
        rw [HR.out]
        refine decide_eq_false (fun hi => ?_)
        obtain ⟨j, hj, e⟩ := List.getElem_of_mem hi
        refine HE.out j (by rw [HL.out] at hj; omega) ?_
        rw [List.getD_eq_getElem?_getD, List.getElem?_eq_getElem hj]
        exact e)
      have k1 : ¬ (k : Int) < (n : Int) := by omega
      clear HE H1
      go_wp2
      (try rw [Exit.noGoto_ret])
      go_ret
      exact ⟨by rw [HF.out]; rfl, HW.out⟩
theorem insI_split (x : Inf) : ∀ (l : List Inf) (k : Nat), k ≤ l.length → (∀ j, j < k → (l.getD j Inf.zero).id < x.id) → (k < l.length → ¬ (l.getD k Inf.zero).id < x.id) → insI x l = l.take k ++ [x] ++ l.drop k
  | [], k, hk, _, _ => by
    obtain rfl : k = 0 := by simpa using hk
    rfl
  | y :: r, 0, _, _, h2 => by
    have := h2 (by simp)
    simp only [List.getD_cons_zero] at this
    unfold insI
    rw [if_neg this]
    rfl
  | y :: r, k + 1, hk, h1, h2 => by
    have h0 := h1 0 (by omega)
    simp only [List.getD_cons_zero] at h0
    unfold insI
    rw [if_pos h0, insI_split x r k (by simpa using hk) (fun j hj => by simpa using h1 (j + 1) (by omega)) (fun hj => by simpa using h2 (by simpa using hj))]
    rfl
def InsPost (w : World) (x : Inf) (l : List Inf) (e : Ending) (w' : World) : Prop :=
  ∃ v, e = .returned v ∧ w'.ownsRow w.heap.size 50 5 v (l.length + 1) (infsV (insI x l)) ∧ Below w.heap.size w w'
set_option maxHeartbeats 4000000 in
theorem insert_any {A : Option Addr} {n cap : Nat} {l : List Inf} (x : Inf) {w : World} (h : InfRow w A n cap l) (hn : n ≤ 100000) :
    Calls Tryd.prog 53 #[.slice A n cap, x.val] w (InsPost w x l) := by
  have hm := h.max
  have hc := h.le
  unfold maxLen at hm
  have HL := Lib.hid h.len
  have HLA : Hid (Later w fun u => InfRow u A n cap l) := Lib.hid (fun u hu => h.below hu)
  have hw1 : Below w.heap.size w (w.alloc (.cells #[.int .i64 x.id, .int .i64 x.tr, .int .i64 x.fr, .int .i64 x.tl, .int .u32 x.sm] 50)) := below_box _ _
  have hx1 : Later (w.alloc (.cells #[.int .i64 x.id, .int .i64 x.tr, .int .i64 x.fr, .int .i64 x.tl, .int .u32 x.sm] 50)) fun u => u.cell? ⟨w.heap.size, 0, none⟩ = some (.int .i64 x.id) ∧ u.cell? ⟨w.heap.size, 1, none⟩ = some (.int .i64 x.tr) ∧ u.cell? ⟨w.heap.size, 2, none⟩ = some (.int .i64 x.fr) ∧ u.cell? ⟨w.heap.size, 3, none⟩ = some (.int .i64 x.tl) ∧ u.cell? ⟨w.heap.size, 4, none⟩ = some (.int .u32 x.sm) := fun u hu => by
    have hl : w.heap.size < (w.alloc (.cells #[.int .i64 x.id, .int .i64 x.tr, .int .i64 x.fr, .int .i64 x.tl, .int .u32 x.sm] 50)).heap.size := by simp
    refine ⟨?_, ?_, ?_, ?_, ?_⟩
    all_goals
      rw [hu.cell hl]
      simp
  obtain ⟨W1, hW1⟩ : ∃ W1, W1 = w.alloc (.cells #[.int .i64 x.id, .int .i64 x.tr, .int .i64 x.fr, .int .i64 x.tl, .int .u32 x.sm] 50) := ⟨_, rfl⟩
  rw [← hW1] at hw1 hx1
  have HW1 := Lib.hid hW1
  have HB1 := Lib.hid hw1
  have HX1 := Lib.hid hx1
  obtain ⟨gb, hgb⟩ : ∃ gb, gb = w.heap.size := ⟨_, rfl⟩
  have HGB := Lib.hid hgb
  rw [← hgb] at HX1
  clear h hw1 hx1 hW1 hgb
  unfold Inf.val
  go_enter Tryd.func53, Tryd.ntmps53
  go_wp2
  rw [← HW1.out, ← HGB.out]
  go_loopw [5] (fun s5 wr => ∃ (k : Nat), s5 = .int .i64 (k : Int) ∧ k ≤ n ∧ Hid (∀ j, j < k → (l.getD j Inf.zero).id < x.id) ∧ Hid (Below W1.heap.size W1 wr)) (fun s5 _ => n - (intOf s5).toNat)
  case atStart => exact ⟨0, rfl, by omega, Lib.hid (fun j hj => by omega), Lib.hid (Below.refl _ _)⟩
  case round =>
    obtain ⟨k, rfl, hk, HE, HB⟩ := hrel
    obtain ⟨T, hT⟩ : ∃ T, T = (decide (k < n) && decide ((l.getD k Inf.zero).id < x.id)) := ⟨_, rfl⟩
    have HT := Lib.hid hT
    have hx := HX1.out wr HB.out
    obtain ⟨x0, x1, x2, x3, x4⟩ := hx
    go_upto_region 2 with fail
    go_cut [20] (fun s20 wx => s20 = .bool T ∧ Hid (Below wr.heap.size wr wx))
    case first =>
      have HBX : Hid (∀ m, Below wr.heap.size wr (wr.drewN m)) := Lib.hid (fun m => below_drewN _ _)
      by_cases hlt : k < n
      · obtain ⟨b, off, rfl, _, hcell⟩ := (HLA.out wr (past HB1.out HB.out)).cells (by omega)
        have c0 := (hcell k hlt).1
        clear hcell
        have k1 : (k : Int) < (n : Int) := by omega
        have d1 : decide ((k : Int) < (n : Int)) = true := decide_eq_true k1
        by_cases hy : (l.getD k Inf.zero).id < x.id
        · have HTT : Hid (T = true) := Lib.hid (by rw [hT, decide_eq_true hlt, decide_eq_true hy]; rfl)
          generalize (l.getD k Inf.zero).id = y at *
          have d2 : decide (y < x.id) = true := decide_eq_true hy
          clear hT
          go_quiet (fail)
          go_wp2
          go_meet
          case rel => exact ⟨by rw [HTT.out], Lib.hid (HBX.out _)⟩
        · have HTT : Hid (T = false) := Lib.hid (by rw [hT, decide_eq_true hlt, decide_eq_false hy]; rfl)
          generalize (l.getD k Inf.zero).id = y at *
          have d2 : decide (y < x.id) = false := decide_eq_false hy
          clear hT
          go_quiet (fail)
          go_wp2
          go_meet
          case rel => exact ⟨by rw [HTT.out], Lib.hid (HBX.out _)⟩
      · have HTT : Hid (T = false) := Lib.hid (by rw [hT, decide_eq_false hlt]; rfl)
        have k1 : ¬ (k : Int) < (n : Int) := by omega
        have d1 : decide ((k : Int) < (n : Int)) = false := decide_eq_false k1
        clear hT
        go_quiet (fail)
        go_wp2
        go_meet
        case rel => exact ⟨by rw [HTT.out], Lib.hid (HBX.out _)⟩
    case rest =>
      obtain ⟨rfl, HBC⟩ := hcut
      clear hT x0 x1 x2 x3 x4
      have HBW : Hid (Below W1.heap.size W1 wc) := Lib.hid (past HB.out HBC.out)
      have i4 : IntKind.i64.wrap ((k : Int) + 1) = ((k + 1 : Nat) : Int) := by rw [IntKind.wrap_i64]; omega
      cases T
      case true =>
        have HF : Hid (k < n ∧ ∀ j, j < k + 1 → (l.getD j Inf.zero).id < x.id) := Lib.hid (by
          have h := HT.out.symm
          simp only [Bool.and_eq_true, decide_eq_true_eq] at h
          refine ⟨h.1, fun j hj => ?_⟩
          rcases Nat.lt_or_eq_of_le (Nat.le_of_lt_succ hj) with h2 | h2
          · exact HE.out j h2
          · rw [h2]; exact h.2)
        have hkn := HF.out.1
        go_wp2
        go_roundw
        case rel => exact ⟨k + 1, by go_num, by omega, Lib.hid HF.out.2, HBW⟩
        case measure => simp [intOf]; omega
      have HINS : Hid (insI x l = l.take k ++ [x] ++ l.drop k) := Lib.hid (insI_split x l k (by rw [HL.out]; exact hk) HE.out (fun hj => by
        have h := HT.out.symm
        intro hy
        rw [decide_eq_true hy, decide_eq_true (by rw [← HL.out]; exact hj)] at h
        cases h))
      clear HT HE HB HBC
      obtain ⟨WC, hWC⟩ : ∃ WC, WC = wc := ⟨_, rfl⟩
      rw [← hWC] at HBW ⊢
      clear hWC
      have hsl := fun w => sliceI_hi (A := A) (n := n) (k := k) (cap := cap) (by omega) w
      have HBA : Hid (Below w.heap.size w WC) := Lib.hid (past HB1.out HBW.out)
      have HRW : Hid (InfRow (WC.alloc (.cells #[] 50)) A k cap (l.take k)) := Lib.hid ((HLA.out _ (past HBA.out (below_box WC _))).take hk)
      have HO := Lib.hid (own_emptyI WC)
      have HS1 : Hid (0 + k ≤ 1000000) := Lib.hid (by omega)
      have HZ : Hid (WC.heap.size ≤ (WC.alloc (.cells #[] 50)).heap.size) := Lib.hid (by simp)
      go_wp2_with (at_builtin; refine wpList_append_infs rfl _ _ rfl WC.heap.size _ 0 k [] (l.take k) rfl HO.out A cap rfl HRW.out HS1.out HZ.out ?_)
      intro v3 w3 hown hg
      have hb3 := below_appI hg
      have HB3 : Hid (Below w.heap.size w w3) := Lib.hid (past HBA.out hb3)
      have HO3 : Hid (Later w3 fun u => u.ownsRow WC.heap.size 50 5 v3 k (infsV (l.take k))) := Lib.hid (fun u hu => ownRow_below (by simpa using hown) hu)
      have HXL : Hid (Later w3 fun u => u.cell? ⟨gb, 0, none⟩ = some (.int .i64 x.id) ∧ u.cell? ⟨gb, 1, none⟩ = some (.int .i64 x.tr) ∧ u.cell? ⟨gb, 2, none⟩ = some (.int .i64 x.fr) ∧ u.cell? ⟨gb, 3, none⟩ = some (.int .i64 x.tl) ∧ u.cell? ⟨gb, 4, none⟩ = some (.int .u32 x.sm)) := Lib.hid (HX1.out.on (past HBW.out hb3))
      obtain ⟨x0, x1, x2, x3, x4⟩ := HXL.out.now
      obtain ⟨A2, hsl2, hr2⟩ := sliceI_lo (HLA.out w (Below.refl _ _)) hk
      have HR2 : Hid (Later w fun u => InfRow u A2 (n - k) (cap - k) (l.drop k)) := Lib.hid (fun u hu => hr2.below hu)
      have HZ3 : Hid (∀ O, WC.heap.size ≤ (w3.alloc O).drew.heap.size ∧ Below w3.heap.size w3 ((w3.alloc O).drew)) := Lib.hid (fun O => ⟨Nat.le_trans hb3.size (past (below_box w3 O) (below_drewN _ 1)).size, past (below_box w3 O) (below_drewN _ 1)⟩)
      have HZ4 : Hid (∀ O w4, (w3.alloc O).drew.grownBy w4 v3.ownBlock → Below w.heap.size w w4 ∧ WC.heap.size ≤ w4.heap.size) := Lib.hid (fun O w4 hg4 => by
        have hbb := past HB3.out (HZ3.out O).2
        refine ⟨hbb.grown hg4 hbb.size (fun q e => Nat.le_trans HBA.out.size ((HO3.out _ (HZ3.out O).2).lt q e).1), Nat.le_trans (HZ3.out O).1 hg4.size⟩)
      have HS2 : Hid (k + 1 ≤ 1000000) := Lib.hid (by omega)
      have HS3 : Hid (k + 1 + (n - k) ≤ 1000000) := Lib.hid (by omega)
      clear hown hg hb3 HO HRW HZ hsl hr2 HS1
      go_upto_region 5 with fail
      go_region_law (first
        | (refine step_append_infs rfl (.tmp 28) (.tmp 30) rfl WC.heap.size v3 k 1 (l.take k) [x] (by simp [Act.eval]) (HO3.out _ (HZ3.out _).2) (some ⟨w3.heap.size, 0, none⟩) 1 (by simp [Act.eval]) ((row_inf x w3).below (below_drewN _ 1)) HS2.out (HZ3.out _).1 ?_; intro v4 w4 hown4 hg4; have hz4 := HZ4.out _ _ hg4)
        | (refine step_append_infs rfl (.tmp 31) (.tmp 34) rfl WC.heap.size v4 (k + 1) (n - k) (l.take k ++ [x]) (l.drop k) (by simp [Act.eval]) hown4 A2 (cap - k) (by simp [Act.eval]) (HR2.out _ hz4.1) HS3.out hz4.2 ?_; intro v5 w5 hown5 hg5))
      have HLN : Hid (l.take k ++ [x] ++ l.drop k = insI x l) := Lib.hid HINS.out.symm
      have hb5 : Below w.heap.size w w5 := hz4.1.grown hg5 hz4.1.size (fun q e => Nat.le_trans HBA.out.size (hown4.lt q e).1)
      have HEND : Hid (InsPost w x l (.returned v5) w5) := Lib.hid (by
        refine ⟨v5, rfl, ?_, hb5⟩
        have h := own_base hown5 HBA.out.size
        rw [HLN.out, show k + 1 + (n - k) = l.length + 1 by rw [HL.out]; omega] at h
        exact h)
      clear hown4 hown5 hg4 hg5 hb5 hz4
      go_wp2
      (try rw [Exit.noGoto_ret])
      go_ret
      exact HEND.out
end Go.Proofs.YtdpoahjgdndnhaaDoor
