/-
  Rows of samples, and slices.Clone, Grow, Concat, Equal over them: what each returns; nothing that was there is written.
-/
import Derived.Test.YtinplchaimejbaaTRow
import Derived.Lib.AppendZerosOnto
import Derived.Laws.AppendOwn
import Derived.Laws.OwnMore
import Derived.Lib.SliceRun
namespace Go.Proofs.Ytinplchaimejbaa
open Go.RowKit
attribute [local go_sem ↓] Go.wp_at_zero Go.wp_at_succ
set_option linter.unusedVariables false

/-- A slice (at A, of that room) reads as the samples l. -/
structure Row (w : World) (A : Option Addr) (cap : Nat) (l : List (Int × Int)) : Prop where
  samps : Samps w A l
  le : l.length ≤ cap
  max : cap ≤ maxLen
  nil : A = none → cap = 0
theorem Row.below {w w' : World} {A : Option Addr} {cap : Nat} {l : List (Int × Int)} (h : Row w A cap l) (hb : Below w.heap.size w w') : Row w' A cap l := ⟨h.samps.below hb, h.le, h.max, h.nil⟩
theorem Row.none (w : World) : Row w none 0 [] := ⟨⟨fun s hs => by simp at hs, fun h => by simp at h⟩, Nat.le_refl _, Nat.zero_le _, fun _ => rfl⟩
theorem row_of_own {w : World} {base n : Nat} {v : Value} {l : List (Int × Int)} (h : w.ownsRow base 30 2 v n (sampV l)) (hb : In2 l) : ∃ A cap, v = .slice A n cap ∧ Row w A cap l ∧ l.length = n ∧ ∀ a, A = some a → base ≤ a.block := by
  have hn : l.length = n := by have := h.1; rw [sampV_length] at this; omega
  rcases h.2 with ⟨e, e0⟩ | ⟨g, cap, cur, e, hbg, hh, h1, h2, _⟩
  · subst e0
    obtain rfl : l = [] := List.length_eq_zero_iff.1 hn
    exact ⟨Option.none, 0, e, Row.none w, rfl, fun a h => by cases h⟩
  · subst e
    obtain ⟨s1, s2, s3, s4, s5, s6⟩ := Samps.own h hb
    exact ⟨some ⟨g, 0, Option.none⟩, cap, rfl, ⟨s1, by omega, s4, fun e => by cases e⟩, hn, fun a h => by injection h with h; subst h; exact hbg⟩
/-- What a call gives out: a row that reads as l, in memory from F on; nothing that was there is written. -/
structure Out (w w' : World) (F : Nat) (A : Option Addr) (cap : Nat) (l : List (Int × Int)) : Prop where
  row : Row w' A cap l
  fresh : ∀ a, A = some a → F ≤ a.block
  below : Below w.heap.size w w'
theorem Out.start {w w1 w' : World} {F : Nat} {A : Option Addr} {cap : Nat} {l : List (Int × Int)} (h : Out w1 w' F A cap l) (hb : Below w.heap.size w w1) : Out w w' F A cap l := ⟨h.row, h.fresh, past hb h.below⟩
theorem Out.low {w w' : World} {F F' : Nat} {A : Option Addr} {cap : Nat} {l : List (Int × Int)} (h : Out w w' F A cap l) (hF : F' ≤ F) : Out w w' F' A cap l := ⟨h.row, fun a e => Nat.le_trans hF (h.fresh a e), h.below⟩
theorem Out.on {w w' w2 : World} {F : Nat} {A : Option Addr} {cap : Nat} {l : List (Int × Int)} (h : Out w w' F A cap l) (hb : Below w'.heap.size w' w2) : Out w w2 F A cap l := ⟨h.row.below hb, h.fresh, past h.below hb⟩
theorem Row.kept {w w' : World} {A : Option Addr} {cap : Nat} {l : List (Int × Int)} (h : Row w A cap l) (hk : ∀ a, A = some a → w'.heap[a.block]? = w.heap[a.block]?) : Row w' A cap l := by
  refine ⟨⟨h.samps.1, fun hp => ?_⟩, h.le, h.max, h.nil⟩
  obtain ⟨b, off, e, hc⟩ := h.samps.2 hp
  refine ⟨b, off, e, fun j hj => ?_⟩
  have hb := hk _ e
  obtain ⟨h0, h1⟩ := hc j hj
  exact ⟨(World.cell?_of_block (w := w) (w' := w') (a := ⟨b, off + j * 2, Option.none⟩) hb).trans h0, (World.cell?_of_block (w := w) (w' := w') (a := ⟨b, off + j * 2 + 1, Option.none⟩) hb).trans h1⟩
theorem Out.set_ {w w' : World} {F : Nat} {A : Option Addr} {cap : Nat} {l : List (Int × Int)} (h : Out w w' F A cap l) (p : Addr) (u : Value) (h1 : w.heap.size ≤ p.block) (h2 : p.block < F) : Out w (w'.setCell p u) F A cap l :=
  ⟨h.row.kept (fun a e => Below.heap_setCell _ _ _ _ (by have := h.fresh a e; omega)), h.fresh, h.below.setCell h1 u⟩

/-- append(v, x...) of rows of samples. -/
theorem wpList_append_samps {w : World} {ops : Array Oper} {rest : List Oper} {o : Oper} {a : Act} {Q : Exit → Act → World → Prop} (hgd : o.guard = none) (s x : Operand)
    (ho : o.op = .call { callee := .builtin .append, args := #[s, x], argTypes := #[23, 23] }) (base : Nat) (v : Value) (n m : Nat) (l l2 : List (Int × Int)) (hs : a.eval s = v) (hown : w.ownsRow base 30 2 v n (sampV l))
    (B : Option Addr) (c : Nat) (hx : a.eval x = .slice B m c) (hm : l2.length = m) (hr : Row w B c l2) (hlen : n + m ≤ 100000) (hbase : base ≤ w.heap.size)
    (h : ∀ v' w', w'.ownsRow base 30 2 v' (n + m) (sampV (l ++ l2)) → w.grownBy w' v.ownBlock → wpList Try.prog ops Q rest (a.put o.dst v') w') : wpList Try.prog ops Q (o :: rest) a w := by
  obtain ⟨i0', hi, hz0, hz1, hz2⟩ := info_parts Try.info30
  cases B with
  | none =>
    have hc := hr.nil rfl
    subst hc
    obtain rfl : m = 0 := by have := hr.le; omega
    obtain rfl : l2 = [] := List.length_eq_zero_iff.1 hm
    refine wpList_append_own_none hgd s x 23 ho base 30 i0' 2 Try.underlying23 hi v n (sampV l) hs hown hx ?_
    refine h v w ?_ ⟨rfl, rfl, rfl, Nat.le_refl _, fun _ _ _ => rfl⟩
    rw [List.append_nil]
    exact hown
  | some ad =>
    refine wpList_append_own w hgd s x 23 ho base 30 i0' (.agg #[.int .i64 0, .int .i64 0]) 2 16 Try.underlying23 hi hz0 hz1 hz2 rfl (by decide) v n (sampV l) hs hown ad m c (sampV l2) hx (by rw [sampV_length, hm]) ?_ (sampV_one _) (by unfold maxLen; omega) (by omega) hbase ?_
    · intro j u hj
      have hl : 0 < l2.length := by
        rcases Nat.eq_zero_or_pos l2.length with e | e
        · rw [List.length_eq_zero_iff.1 e] at hj; simp [sampV] at hj
        · exact e
      obtain ⟨b, off, e, _⟩ := hr.samps.2 hl
      injection e with e
      subst e
      exact hr.samps.news j u hj
    · intro v' w' h1 h2 _
      exact h v' w' (by rw [sampV_append]; exact h1) h2

theorem eqNil (A : Option Addr) (n c : Nat) (w : World) : (binOp .eql 23 (.slice A n c) (.slice none 0 0)).run Try.prog w = .ok (.bool A.isNone) w := Lib.run_eql_slice_nil w 23 30 A n c 0 0 Try.underlying23

set_option maxRecDepth 100000 in
set_option maxHeartbeats 1000000 in
theorem clone_any {A : Option Addr} {cap n : Nat} {l : List (Int × Int)} {w : World} (hr : Row w A cap l) (hn : l.length = n) (hl : n ≤ 1000) :
    Calls Try.prog 25 #[.slice A n cap] w fun e w' => ∃ A' cap', e = .returned (.slice A' n cap') ∧ Out w w' w.heap.size A' cap' l := by
  cases A with
  | none =>
    have hc := hr.nil rfl
    subst hc
    obtain rfl : n = 0 := by have := hr.le; omega
    obtain rfl : l = [] := List.length_eq_zero_iff.1 hn
    have q : ∀ w, (binOp .eql 23 (.slice none 0 0) (.slice none 0 0)).run Try.prog w = .ok (.bool true) w := fun w => eqNil none 0 0 w
    go_enter Try.func25, Try.ntmps25
    go_wp2
    (try simp only [Exit.inBlock, Exit.then])
    go_ret
    exact ⟨Option.none, 0, rfl, Row.none _, (fun a h => by cases h), Below.refl _ _⟩
  | some ad =>
    have q : ∀ w, (binOp .eql 23 (.slice (some ad) n cap) (.slice none 0 0)).run Try.prog w = .ok (.bool false) w := fun w => eqNil (some ad) n cap w
    have HR := Lib.hid hr
    have HN := Lib.hid hn
    clear hr hn
    obtain ⟨w9, hw9⟩ : ∃ w9, w9 = w.alloc (.cells #[] 30) := ⟨_, rfl⟩
    have O9 : Hid (w9.ownsRow w.heap.size 30 2 (.slice (some ⟨w.heap.size, 0, none⟩) 0 0) 0 (sampV [])) := Lib.hid (by rw [hw9]; exact World.ownsRow_made w #[] 0 (Nat.le_refl _) (Nat.zero_le _) rfl)
    have hB9 : Below w.heap.size w w9 := by rw [hw9]; exact past_alloc (Below.refl _ _) _
    have HB9 := Lib.hid hB9
    have HR9 := Lib.hid (HR.out.below hB9)
    have W9 := Lib.hid hw9
    clear hw9 hB9
    go_enter Try.func25, Try.ntmps25
    go_wp2_with (at_builtin; rw [← W9.out]; refine wpList_append_samps rfl _ _ rfl w.heap.size _ 0 n [] l rfl O9.out (some ad) cap rfl HN.out HR9.out (by omega) HB9.out.size ?_)
    intro v' w' hown hgrow
    have HO := Lib.hid hown
    have HB : Hid (Below w.heap.size w w') := Lib.hid (HB9.out.grown hgrow HB9.out.size (fun k h => (O9.out.lt k h).1))
    clear hown hgrow
    go_wp2
    go_ret
    obtain ⟨A', cap', e, hrow, hlen, hfr⟩ := row_of_own HO.out HR.out.samps.1
    exact ⟨A', cap', by rw [e]; rfl, hrow, hfr, HB.out⟩

set_option maxRecDepth 100000 in
set_option maxHeartbeats 1000000 in
theorem grow_any (n : Nat) (w : World) (h0 : 0 < n) (hl : n ≤ 1000) :
    Calls Try.prog 27 #[.slice none 0 0, .int .i64 (n : Int)] w fun e w' => ∃ v, e = .returned v ∧ w'.ownsRow w.heap.size 30 2 v 0 (sampV []) ∧ Below w.heap.size w w' := by
  obtain ⟨i0', hi, hz0, hz1, hz2⟩ := info_parts Try.info30
  have hrz := fun ty => Lib.run_append_grow_zeros w 23 3 ty 30 i0' (.agg #[.int .i64 0, .int .i64 0]) .i64 .i64 Try.underlying23 Try.underlying3 hi hz0 none 0 0 [] (run_firstCells_none w.drew i0'.size 0 0 0) n h0 (by omega) (by omega) (by omega) (by rw [hz2]; omega) (by rw [Nat.zero_add]; exact growslice_fits h0 (by rw [hz2]; omega))
  simp only [Nat.zero_add] at hrz
  have hG : n ≤ grownCap w n 0 30 := grownCap_ge w _ _ _
  have hG2 : grownCap w n 0 30 ≤ maxLen := grownCap_le_maxLen w n 0 30 (by unfold maxLen; omega)
  generalize grownCap w n 0 30 = G at hrz hG hG2
  obtain ⟨cs, hcs⟩ : ∃ cs, cs = ([] : List Value).toArray ++ Builtin.zeroCells (Value.agg #[.int .i64 0, .int .i64 0]).cells n ++ Builtin.zeroCells (Value.agg #[.int .i64 0, .int .i64 0]).cells (G - n) := ⟨_, rfl⟩
  have hsz : cs.size = G * 2 := by
    rw [hcs]
    simp only [Array.size_append, size_zeroCells]
    show 0 + n * 2 + (G - n) * 2 = G * 2
    omega
  rw [← hcs] at hrz
  have HO : Hid ((w.drew.alloc (.cells cs 30)).ownsRow w.heap.size 30 2 (.slice (some ⟨w.heap.size, 0, none⟩) 0 G) 0 (sampV [])) := Lib.hid (World.ownsRow_made w.drew cs G (Nat.le_refl _) hG2 hsz)
  have HB : Hid (Below w.heap.size w (w.drew.alloc (.cells cs 30))) := Lib.hid (past_alloc (Below.refl _ _).drew _)
  have i1 : ¬ ((n : Int) < 0) := by omega
  have i2 : (n : Int) > 0 := by omega
  have i3 : IntKind.i64.wrap (n : Int) = n := by rw [IntKind.wrap_i64]; omega
  clear hcs hsz hi hz0 hz1 hz2
  unfold maxLen at hG2
  have HRZ := Lib.hid hrz
  clear hrz
  go_enter Try.func27, Try.ntmps27
  go_wp2_with (at_builtin; refine Lib.wpList_append_run _ rfl _ _ _ _ rfl _ _ rfl rfl _ _ (HRZ.out _) ?_)
  all_goals
    go_ret
    exact ⟨_, rfl, HO.out, HB.out⟩

set_option maxRecDepth 100000 in
set_option maxHeartbeats 1000000 in
theorem concat_any {g n1 n2 n3 n ca cb cc : Nat} {A B C : Option Addr} {l1 l2 l3 : List (Int × Int)} {w : World} (h1 : Row w A ca l1) (h2 : Row w B cb l2) (h3 : Row w C cc l3) (e1 : l1.length = n1) (e2 : l2.length = n2) (e3 : l3.length = n3)
    (hn : n1 + n2 + n3 = n) (h0 : 0 < n) (hl : n ≤ 1000) (c1 : w.cell? ⟨g, 0, none⟩ = some (.slice A n1 ca)) (c2 : w.cell? ⟨g, 1, none⟩ = some (.slice B n2 cb)) (c3 : w.cell? ⟨g, 2, none⟩ = some (.slice C n3 cc)) :
    Calls Try.prog 20 #[.slice (some ⟨g, 0, none⟩) 3 3] w fun e w' => ∃ A' cap', e = .returned (.slice A' n cap') ∧ Out w w' w.heap.size A' cap' (l1 ++ l2 ++ l3) := by
  have H1 := Lib.hid h1
  have H2 := Lib.hid h2
  have H3 := Lib.hid h3
  have E1 := Lib.hid e1
  have E2 := Lib.hid e2
  have E3 := Lib.hid e3
  have HN := Lib.hid hn
  have m1 := grow_any n w h0 hl
  have M1 := Lib.hid m1
  have i1 : IntKind.i64.wrap (n1 : Int) = n1 := by rw [IntKind.wrap_i64]; omega
  have i2 : IntKind.i64.wrap ((n1 : Int) + n2) = (n1 : Int) + n2 := by rw [IntKind.wrap_i64]; omega
  have i3 : IntKind.i64.wrap ((n1 : Int) + n2 + n3) = n := by rw [IntKind.wrap_i64]; omega
  have j1 : ¬ ((n1 : Int) < 0) := by omega
  have j2 : ¬ ((n1 : Int) + n2 < 0) := by omega
  have j3 : ¬ ((n : Int) < 0) := by omega
  clear h1 h2 h3 e1 e2 e3 hn m1
  go_enter Try.func20, Try.ntmps20
  go_wp2
  refine wp_loop_rounds 4 ?_
  rw [rounds_succ]
  go_wp2
  rw [rounds_succ]
  go_wp2
  rw [rounds_succ]
  go_wp2
  rw [rounds_succ]
  go_wp2_with fail
  refine M1.out.mono ?_
  rintro e w2 ⟨v2, rfl, hown, hb⟩
  have HO := Lib.hid hown
  have HB := Lib.hid hb
  have HA : Hid (∀ v3 w3, w3.ownsRow w.heap.size 30 2 v3 n1 (sampV l1) → w2.grownBy w3 v2.ownBlock → Below w.heap.size w w3) := Lib.hid (fun v3 w3 _ hg => hb.grown hg hb.size (fun k h => (hown.lt k h).1))
  clear hown hb
  have d1 : w2.cell? ⟨g, 0, none⟩ = some (.slice A n1 ca) := by rw [HB.out.cell (World.block_lt_of_cell? w _ c1)]; exact c1
  go_wp2
  refine wp_loop_rounds 4 ?_
  rw [rounds_succ]
  go_wp2_with (at_builtin; refine wpList_append_samps rfl _ _ rfl w.heap.size _ 0 n1 [] l1 rfl HO.out A ca rfl E1.out (H1.out.below HB.out) (by have := HN.out; omega) HB.out.size ?_)
  intro v3 w3 hown hgrow
  have HO3 := Lib.hid hown
  have HB3 := Lib.hid (HA.out v3 w3 hown hgrow)
  clear hown hgrow HA HO d1 HB M1
  have d2 : w3.cell? ⟨g, 1, none⟩ = some (.slice B n2 cb) := by rw [HB3.out.cell (World.block_lt_of_cell? w _ c2)]; exact c2
  go_wp2
  rw [rounds_succ]
  go_wp2_with (at_builtin; refine wpList_append_samps rfl _ _ rfl w.heap.size _ n1 n2 l1 l2 rfl HO3.out B cb rfl E2.out (H2.out.below HB3.out) (by have := HN.out; omega) HB3.out.size ?_)
  intro v4 w4 hown hgrow
  have HO4 := Lib.hid hown
  have HB4 : Hid (Below w.heap.size w w4) := Lib.hid (HB3.out.grown hgrow HB3.out.size (fun k h => (HO3.out.lt k h).1))
  clear hown hgrow HO3 HB3 d2
  have d3 : w4.cell? ⟨g, 2, none⟩ = some (.slice C n3 cc) := by rw [HB4.out.cell (World.block_lt_of_cell? w _ c3)]; exact c3
  go_wp2
  rw [rounds_succ]
  go_wp2_with (at_builtin; refine wpList_append_samps rfl _ _ rfl w.heap.size _ (n1 + n2) n3 (l1 ++ l2) l3 rfl HO4.out C cc rfl E3.out (H3.out.below HB4.out) (by have := HN.out; omega) HB4.out.size ?_)
  intro v5 w5 hown hgrow
  rw [HN.out] at hown
  have HO5 := Lib.hid hown
  have HB5 : Hid (Below w.heap.size w w5) := Lib.hid (HB4.out.grown hgrow HB4.out.size (fun k h => (HO4.out.lt k h).1))
  clear hown hgrow HO4 HB4 d3
  go_wp2
  rw [rounds_succ]
  go_wp2
  go_ret
  have h5 := HO5.out
  (try rw [← List.append_assoc] at h5)
  obtain ⟨A', cap', e, hrow, hlen, hfr⟩ := row_of_own h5 (fun s hs => by
    rw [List.mem_append, List.mem_append] at hs
    rcases hs with (hs | hs) | hs
    · exact H1.out.samps.1 s hs
    · exact H2.out.samps.1 s hs
    · exact H3.out.samps.1 s hs)
  exact ⟨A', cap', by rw [e]; rfl, hrow, hfr, HB5.out⟩

/-! slices.Equal of two rows that read as the same samples; of two rows that are unlike in length. -/
set_option maxRecDepth 100000 in
set_option maxHeartbeats 1000000 in
theorem equal_in (b off b2 off2 n ca cb : Nat) (l : List (Int × Int)) (w : World) (hl : l.length = n) (hc : n ≤ ca) (hc2 : n ≤ cb) (hm : ca ≤ maxLen) (hm2 : cb ≤ maxLen) (h0 : 0 < n)
    (h1 : Samps w (some ⟨b, off, none⟩) l) (h2 : Samps w (some ⟨b2, off2, none⟩) l) :
    Calls Try.prog 21 #[.slice (some ⟨b, off, none⟩) n ca, .slice (some ⟨b2, off2, none⟩) n cb] w fun e w' => e = .returned (.bool true) ∧ Below w.heap.size w w' := by
  unfold maxLen at hm hm2
  have H1 : Hid (∀ w', Below w.heap.size w w' → ∀ j, j < n → w'.cell? ⟨b, off + j * 2, none⟩ = some (.int .i64 (l.getD j (0, 0)).1) ∧ w'.cell? ⟨b, off + j * 2 + 1, none⟩ = some (.int .i64 (l.getD j (0, 0)).2)) := Lib.hid (fun w' hb j hj => by
    obtain ⟨b', o', e, hcc⟩ := (h1.below hb).2 (by rw [hl]; exact h0)
    injection e with e
    injection e with e1 e2
    subst e1 e2
    exact hcc j (by rw [hl]; exact hj))
  have H2 : Hid (∀ w', Below w.heap.size w w' → ∀ j, j < n → w'.cell? ⟨b2, off2 + j * 2, none⟩ = some (.int .i64 (l.getD j (0, 0)).1) ∧ w'.cell? ⟨b2, off2 + j * 2 + 1, none⟩ = some (.int .i64 (l.getD j (0, 0)).2)) := Lib.hid (fun w' hb j hj => by
    obtain ⟨b', o', e, hcc⟩ := (h2.below hb).2 (by rw [hl]; exact h0)
    injection e with e
    injection e with e1 e2
    subst e1 e2
    exact hcc j (by rw [hl]; exact hj))
  have h0i : (0 : Int) < (n : Int) := by omega
  clear h1 h2 hl
  go_enter Try.func21, Try.ntmps21
  go_wp2
  go_loopw [13] (fun si wr => ∃ (k : Nat), k ≤ n ∧ si = .int .i64 (k : Int) ∧ Hid (Below w.heap.size w wr)) (fun si _ => n - (intOf si).toNat)
  case atStart => exact ⟨0, by omega, rfl, Lib.hid (Below.refl _ _)⟩
  case round =>
    obtain ⟨k, hk, rfl, HW⟩ := hrel
    by_cases hlt : k < n
    · obtain ⟨c0, c1⟩ := H1.out wr HW.out k hlt
      obtain ⟨e0, e1⟩ := H2.out wr HW.out k hlt
      generalize l.getD k (0, 0) = a at c0 c1 e0 e1
      have i1 : (0 : Int) ≤ (k : Int) := by omega
      have i2 : (k : Int) < (n : Int) := by omega
      go_upto_region 6 with fail
      go_quiet (fail)
      have HW2 := Lib.hid (past HW.out (belowN wr nq))
      clear c0 c1 e0 e1
      generalize wr.drewN nq = wz at *
      go_wp2
      go_roundw
      case rel => exact ⟨k + 1, by omega, by go_num, HW2⟩
      case measure => simp [intOf]; omega
    · go_wp2
      (try rw [Exit.noGoto_ret])
      go_ret
      exact ⟨rfl, HW.out⟩

set_option maxRecDepth 100000 in
theorem equal_none (A B : Option Addr) (ca cb : Nat) (w : World) : Calls Try.prog 21 #[.slice A 0 ca, .slice B 0 cb] w fun e w' => e = .returned (.bool true) ∧ Below w.heap.size w w' := by
  go_enter Try.func21, Try.ntmps21
  go_wp2
  refine wp_loop_rounds 1 ?_
  rw [rounds_succ]
  go_wp2
  (try rw [Exit.noGoto_ret])
  go_ret
  exact ⟨rfl, Below.refl _ _⟩

theorem equal_any {A B : Option Addr} {n ca cb : Nat} {l : List (Int × Int)} {w : World} (hl : l.length = n) (h1 : Samps w A l) (h2 : Samps w B l) (hc : n ≤ ca) (hc2 : n ≤ cb) (hm : ca ≤ maxLen) (hm2 : cb ≤ maxLen) :
    Calls Try.prog 21 #[.slice A n ca, .slice B n cb] w fun e w' => e = .returned (.bool true) ∧ Below w.heap.size w w' := by
  by_cases h0 : 0 < n
  · obtain ⟨b, off, rfl, _⟩ := h1.2 (by omega)
    obtain ⟨b2, off2, rfl, _⟩ := h2.2 (by omega)
    exact equal_in b off b2 off2 n ca cb l w hl hc hc2 hm hm2 h0 h1 h2
  · obtain rfl : n = 0 := by omega
    exact equal_none A B ca cb w

set_option maxRecDepth 100000 in
theorem equal_len (A B : Option Addr) (n m ca cb : Nat) (w : World) (h : n ≠ m) (hn : n ≤ 1000) (hm : m ≤ 1000) : Calls Try.prog 21 #[.slice A n ca, .slice B m cb] w fun e w' => e = .returned (.bool false) ∧ w = w' := by
  have i1 : ((n : Int) != (m : Int)) = true := by simp; omega
  go_enter Try.func21, Try.ntmps21
  go_wp2
  (try simp only [Exit.inBlock, Exit.then])
  go_ret
  exact ⟨rfl, rfl⟩
end Go.Proofs.Ytinplchaimejbaa
