/-
  The landed block's Get: what it returns of every row of bytes; nothing that was there is written.
-/
import Derived.Test.YtfojciolhokejaaDoorKPut
import Derived.Test.YtfojciolhokejaaDoorBRGet
namespace Go.Proofs.YtfojciolhokejaaDoor
open Go.RowKit
attribute [local go_sem ↓] Go.wp_at_zero Go.wp_at_succ
set_option linter.unusedVariables false

/-- Amid a round: the reader, the row of the call's own, the sample that is read, each apart from the others. -/
structure KMid (w wr : World) (gR gS : Nat) (A : Option Addr) (len cap : Nat) (bs : List Nat) (p : Nat) (bad : Bool) (V : Value) (out : List (Int × Int)) (t v : Int) : Prop where
  pos : RB wr w.heap.size gR A len cap bs p bad
  own : wr.ownsRow w.heap.size 48 2 V out.length (sampV out)
  below : Below w.heap.size w wr
  sv : SVar wr gS t v
  base : w.heap.size ≤ gS
  ne : gR ≠ gS
  ap : ∀ k, V.ownBlock = some k → k ≠ gR ∧ k ≠ gS
section
variable {w wr w' : World} {gR gS : Nat} {A : Option Addr} {len cap : Nat} {bs : List Nat} {p q : Nat} {bad b : Bool} {V : Value} {out : List (Int × Int)} {t v : Int}
theorem own2_grown {base n : Nat} {xs : List Value} {row : Option Nat} (h : wr.ownsRow base 48 2 V n xs) (hg : wr.grownBy w' row) (hne : ∀ k, V.ownBlock = some k → some k ≠ row) : w'.ownsRow base 48 2 V n xs :=
  h.kept hg (by
    rcases e : V.ownBlock with _ | k
    · exact .inl rfl
    · exact .inr (hne k e))
theorem KMid.num (h : KMid w wr gR gS A len cap bs p bad V out t v) (hr : RB w' w.heap.size gR A len cap bs q b) (hg : wr.grownBy w' (some gR)) : KMid w w' gR gS A len cap bs q b V out t v :=
  ⟨hr, own2_grown h.own hg (fun k e e2 => (h.ap k e).1 (by injection e2)), h.below.grown hg h.below.size (fun k e => by injection e with e; subst e; exact h.pos.base), h.sv.grown hg (fun e => h.ne (by injection e with e; exact e.symm)), h.base, h.ne, h.ap⟩
theorem KMid.drewN (h : KMid w wr gR gS A len cap bs p bad V out t v) (n : Nat) : KMid w (wr.drewN n) gR gS A len cap bs p bad V out t v :=
  h.num (h.pos.grown (g_drew wr n none) (by simp) (fun k e => by cases e)) (g_drew wr n _)
theorem SVar.set0 {g : Nat} (h : SVar w g t v) (t' : Int) : SVar (w.setCell ⟨g, 0, none⟩ (.int .i64 t')) g t' v := by
  obtain ⟨c0, c1, f0, f1⟩ := h
  constructor <;> simp [go_sem, *]
theorem SVar.set1 {g : Nat} (h : SVar w g t v) (v' : Int) : SVar (w.setCell ⟨g, 1, none⟩ (.int .i64 v')) g t v' := by
  obtain ⟨c0, c1, f0, f1⟩ := h
  constructor <;> simp [go_sem, *]
theorem KMid.cell (h : KMid w wr gR gS A len cap bs p bad V out t v) (j : Nat) (x : Value) {t' v' : Int} (hs : SVar (wr.setCell ⟨gS, j, none⟩ x) gS t' v') : KMid w (wr.setCell ⟨gS, j, none⟩ x) gR gS A len cap bs p bad V out t' v' := by
  have hg := g_cell wr gS j x
  exact ⟨h.pos.grown hg (fun e => h.ne (by injection e)) (fun k e => by injection e with e; subst e; exact h.base), own2_grown h.own hg (fun k e e2 => (h.ap k e).2 (by injection e2)), h.below.grown hg h.below.size (fun k e => by injection e with e; subst e; exact h.base), hs, h.base, h.ne, h.ap⟩
theorem KMid.setT (h : KMid w wr gR gS A len cap bs p bad V out t v) (t' : Int) : KMid w (wr.setCell ⟨gS, 0, none⟩ (.int .i64 t')) gR gS A len cap bs p bad V out t' v := h.cell 0 _ (h.sv.set0 t')
theorem KMid.setV (h : KMid w wr gR gS A len cap bs p bad V out t v) (v' : Int) : KMid w (wr.setCell ⟨gS, 1, none⟩ (.int .i64 v')) gR gS A len cap bs p bad V out t v' := h.cell 1 _ (h.sv.set1 v')
/-- Behind an append. -/
theorem KMid.app (h : KMid w wr gR gS A len cap bs p bad V out t v) {o : Obj} {g2 cap2 : Nat} {x : Int × Int} (hown : w'.ownsRow w.heap.size 48 2 (.slice (some ⟨g2, 0, none⟩) (out.length + 1) cap2) (out.length + 1) (sampV out ++ [.int .i64 x.1, .int .i64 x.2])) (hg : (wr.alloc o).grownBy w' V.ownBlock)
    (hat : V.ownBlock = some g2 ∨ g2 = (wr.alloc o).heap.size) : KMid w w' gR gS A len cap bs p bad (.slice (some ⟨g2, 0, none⟩) (out.length + 1) cap2) (out ++ [x]) t v := by
  have hf : ∀ k, V.ownBlock = some k → w.heap.size ≤ k := fun k e => (h.own.lt k e).1
  have hsz : wr.heap.size ≤ (wr.alloc o).heap.size := by simp
  have h1 := h.pos.grown (g_all wr o none) (by simp) (fun k e => by cases e)
  have h2 := h.sv.grown (g_all wr o none) (by simp)
  refine ⟨h1.grown hg (fun e => (h.ap gR e.symm).1 rfl) hf, ?_, (past_alloc h.below o).grown hg (Nat.le_trans h.below.size hsz) hf, h2.grown hg (fun e => (h.ap gS e.symm).2 rfl), h.base, h.ne, ?_⟩
  · rw [sampV_append, List.length_append]
    exact hown
  · intro k e
    simp only [Value.ownBlock, Option.some.injEq] at e
    subst e
    rcases hat with e | e
    · exact h.ap _ e
    · have := h.pos.at_.lt
      have := h.sv.lt
      omega
end
/-- What is still to be read. -/
def kLeft (n i : Nat) (t s v : Int) (b : List Nat) : Option (List (Int × Int) × List Nat) := match i with
  | 0 => kFirst n b
  | i + 1 => kOn (n - (i + 1)) t s v b
structure KGInv (w wr : World) (gR gS : Nat) (A : Option Addr) (len cap : Nat) (bs : List Nat) (R : Option (List (Int × Int) × List Nat)) (n i : Nat) (st : Int) (p : Nat) (bad : Bool) (V : Value) (out : List (Int × Int)) (t v : Int) : Prop where
  mid : KMid w wr gR gS A len cap bs p bad V out t v
  in2 : In2 out
  len_ : out.length = i
  step : In64 st
  tv : In64 t ∧ In64 v
  zero : i = 0 → st = 0 ∧ v = 0
  says : bad = false → R = (kLeft n i t st v (bs.drop p)).map fun y => (out ++ y.1, y.2)
  wrong : bad = true → R = none ∧ n = 0
theorem rd_num {bs : List Nat} {p : Nat} : rd (bs.drop p) = if (numR bs p false).2.2 then none else some ((numR bs p false).1, bs.drop (numR bs p false).2.1) := by
  unfold rd numR
  simp only
  cases e : dec 0 0 (bs.drop p) with
  | none => simp
  | some y =>
    obtain ⟨v, k⟩ := y
    simp [List.drop_drop]
theorem kLeft_zero {bs : List Nat} {n p a c q1 q2 : Nat} {b1 b2 : Bool} {t s v : Int} (hn : 0 < n) (e1 : numR bs p false = (a, q1, b1)) (e2 : numR bs q1 false = (c, q2, b2)) :
    kLeft n 0 t s v (bs.drop p) = if b1 || b2 then none else (kLeft n 1 (w64 a) 0 (zag c) (bs.drop q2)).map fun y => ((w64 a, zag c) :: y.1, y.2) := by
  obtain ⟨m, rfl⟩ : ∃ m, n = m + 1 := ⟨n - 1, by omega⟩
  simp only [kLeft, kFirst, rd_num, e1, Nat.add_sub_cancel]
  cases b1 with
  | true => simp
  | false =>
    simp only [Bool.false_eq_true, if_false, Bool.false_or, rd_num, e2]
    cases b2 with
    | true => simp
    | false =>
      simp only [Bool.false_eq_true, if_false]
      cases kOn m (w64 a) 0 (zag c) (bs.drop q2) <;> rfl
theorem kLeft_succ {bs : List Nat} {n i p a c q1 q2 : Nat} {b1 b2 : Bool} {t s v : Int} (hi : 0 < i) (hn : i < n) (e1 : numR bs p false = (a, q1, b1)) (e2 : numR bs q1 false = (c, q2, b2)) :
    kLeft n i t s v (bs.drop p) = if b1 || b2 then none else (kLeft n (i + 1) (w64 (t + w64 (s + zag a))) (w64 (s + zag a)) (w64 (v + zag c)) (bs.drop q2)).map fun y => ((w64 (t + w64 (s + zag a)), w64 (v + zag c)) :: y.1, y.2) := by
  obtain ⟨j, rfl⟩ : ∃ j, i = j + 1 := ⟨i - 1, by omega⟩
  obtain ⟨m, hm⟩ : ∃ m, n - (j + 1) = m + 1 := ⟨n - (j + 2), by omega⟩
  have hm2 : n - (j + 1 + 1) = m := by omega
  simp only [kLeft, hm, hm2, kOn, rd_num, e1]
  cases b1 with
  | true => simp
  | false =>
    simp only [Bool.false_eq_true, if_false, Bool.false_or, rd_num, e2]
    cases b2 with
    | true => simp
    | false =>
      simp only [Bool.false_eq_true, if_false]
      cases kOn m (w64 (t + w64 (s + zag a))) (w64 (s + zag a)) (w64 (v + zag c)) (bs.drop q2) <;> rfl
theorem new2 (w : World) (t v : Int) : ∀ j u, ([.int .i64 t, .int .i64 v] : List Value)[j]? = some u → (w.alloc (.cells #[.int .i64 t, .int .i64 v] 48)).cell? ((⟨w.heap.size, 0, none⟩ : Addr).add j) = some u := by
  intro j x hj
  match j, hj with
  | 0, hj => simp at hj; subst hj; simp [Addr.add]
  | 1, hj => simp at hj; subst hj; simp [Addr.add]
theorem one2 (t v : Int) : ∀ u ∈ ([.int .i64 t, .int .i64 v] : List Value), u.oneCell' = true := by
  intro x hx
  simp at hx
  rcases hx with rfl | rfl <;> rfl
theorem kg_next {α : Type} {R L M : Option (List α × List Nat)} {out : List α} {x : α} {b : Bool} (hs : R = L.map fun y => (out ++ y.1, y.2)) (hl : L = if b then none else M.map fun y => (x :: y.1, y.2)) :
    (b = false → R = M.map fun y => ((out ++ [x]) ++ y.1, y.2)) ∧ (b = true → R = none) := by
  subst hl hs
  cases b with
  | true => exact ⟨fun h => (by cases h), fun _ => rfl⟩
  | false =>
    refine ⟨fun _ => ?_, fun h => (by cases h)⟩
    cases M <;> simp
theorem kAll_num {bs : List Nat} {n p : Nat} {b : Bool} (e : numR bs 0 false = (n, p, b)) : kAll bs = if b || decide (64 < n) then none else kFirst n (bs.drop p) := by
  have h : rd bs = if b then none else some (n, bs.drop p) := by
    have := rd_num (bs := bs) (p := 0)
    rw [e] at this
    simpa using this
  unfold kAll
  rw [h]
  cases b with
  | true => simp
  | false =>
    by_cases h64 : 64 < n
    · simp [h64]
    · simp [h64]
theorem numR_bad {bs : List Nat} {n p q : Nat} {b : Bool} (e : numR bs p false = (n, q, b)) (hb : b = true) : n = 0 := by
  unfold numR at e
  simp only at e
  split at e
  · simp only [Prod.mk.injEq] at e
    rw [hb] at e
    exact absurd e.2.2 (by simp)
  · simp only [Prod.mk.injEq] at e
    exact e.1.symm
theorem getB_none {bs : List Nat} (hb : ∀ c ∈ bs, c < 256) (h : kAll bs = none) : getB bs = none := by rw [kAll_says hb, h]
theorem getB_of {bs : List Nat} {l : List (Int × Int)} {p : Nat} (hb : ∀ c ∈ bs, c < 256) (hp : p ≤ bs.length) (h : kAll bs = some (l, bs.drop p)) : getB bs = if p = bs.length ∧ Rise l then some l else none := by
  rw [kAll_says hb, h]
  by_cases e : p = bs.length
  · have : bs.drop p = [] := by rw [e]; simp
    rw [this]
    simp [e]
  · rw [if_neg (fun h => e h.1)]
    rcases hd : bs.drop p with _ | ⟨x, r⟩
    · have := congrArg List.length hd
      simp at this
      omega
    · rfl
end Go.Proofs.YtfojciolhokejaaDoor
