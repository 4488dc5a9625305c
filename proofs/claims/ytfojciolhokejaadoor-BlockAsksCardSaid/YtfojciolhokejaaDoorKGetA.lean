/-
  The landed block's GetAggs: what it returns of every row of bytes; nothing that was there is written.
-/
import Derived.Test.YtfojciolhokejaaDoorKAgg
import Derived.Test.YtfojciolhokejaaDoorKGet
import Derived.Test.YtfojciolhokejaaDoorBRGetA
namespace Go.Proofs.YtfojciolhokejaaDoor
open Go.RowKit
attribute [local go_sem ↓] Go.wp_at_zero Go.wp_at_succ
set_option linter.unusedVariables false

theorem kAg_bad (bs : List Nat) (fr : Int) (p : Nat) (bad : Bool) : kAg bs fr p bad = ((kAg bs fr p false).1, (kAg bs fr p false).2.1, bad || (kAg bs fr p false).2.2) := by
  unfold kAg
  simp only
  split
  · simp [Bool.or_assoc]
  · simp [Bool.or_assoc]
theorem kaMore_num (bs : List Nat) (fr : Int) (p : Nat) : kaMore fr (bs.drop p) = if (kAg bs fr p false).2.2 then none else some ((kAg bs fr p false).1, bs.drop (kAg bs fr p false).2.1) := by
  unfold kaMore kAg
  rw [rd_num]
  obtain ⟨c, q1, b1, e1⟩ : ∃ a q b, numR bs p false = (a, q, b) := ⟨_, _, _, rfl⟩
  obtain ⟨m, q2, b2, e2⟩ : ∃ a q b, numR bs q1 false = (a, q, b) := ⟨_, _, _, rfl⟩
  obtain ⟨x, q3, b3, e3⟩ : ∃ a q b, numR bs q2 false = (a, q, b) := ⟨_, _, _, rfl⟩
  obtain ⟨s, q4, b4, e4⟩ : ∃ a q b, numR bs q3 false = (a, q, b) := ⟨_, _, _, rfl⟩
  obtain ⟨i, q5, b5, e5⟩ : ∃ a q b, numR bs q4 false = (a, q, b) := ⟨_, _, _, rfl⟩
  obtain ⟨j, q6, b6, e6⟩ : ∃ a q b, numR bs q5 false = (a, q, b) := ⟨_, _, _, rfl⟩
  simp only [e1, e2, e3, e4, e5, e6, Bool.false_or]
  cases b1 with
  | true =>
    simp only [if_true, Bool.true_or]
    split <;> rfl
  | false =>
    simp only [Bool.false_eq_true, if_false, rd_num, e2, Bool.false_or]
    cases b2 with
    | true =>
      simp only [if_true, Bool.true_or]
      split <;> rfl
    | false =>
      simp only [Bool.false_eq_true, if_false, rd_num, e3, Bool.false_or]
      split
      · rfl
      · cases b3 with
        | true => simp
        | false =>
          simp only [Bool.false_eq_true, if_false, rd_num, e4, Bool.false_or]
          cases b4 with
          | true => simp
          | false =>
            simp only [Bool.false_eq_true, if_false, rd_num, e5, Bool.false_or]
            cases b5 with
            | true => simp
            | false =>
              simp only [Bool.false_eq_true, if_false, rd_num, e6, Bool.false_or]
              cases b6 <;> simp
theorem kaOn_step {bs : List Nat} {W n i p q f q1 : Nat} {b1 : Bool} {fr : Int} {y : Ag × Nat × Bool} (hi : i < n) (e1 : numR bs q false = (f, q1, b1)) (hfr : ¬ 1099511627776 / W < (p + f) % 18446744073709551616 → fr = (((p + f) % 18446744073709551616 * W : Nat) : Int))
    (hy : kAg bs fr q1 (b1 || decide (1099511627776 / W < (p + f) % 18446744073709551616)) = y) :
    kaOn W (n - i) p (bs.drop q) = if y.2.2 then none else (kaOn W (n - (i + 1)) ((p + f) % 18446744073709551616 + 1) (bs.drop y.2.1)).map fun z => (y.1 :: z.1, z.2) := by
  obtain ⟨m, hm⟩ : ∃ m, n - i = m + 1 := ⟨n - (i + 1), by omega⟩
  have hm2 : n - (i + 1) = m := by omega
  rw [kAg_bad] at hy
  rw [hm, hm2, kaOn, rd_num, e1]
  simp only
  cases b1 with
  | true => rw [← hy]; rfl
  | false =>
    simp only [Bool.false_eq_true, if_false]
    by_cases hb : 1099511627776 / W < (p + f) % 18446744073709551616
    · rw [if_pos hb, ← hy, decide_eq_true hb]
      rfl
    · rw [if_neg hb, ← hfr hb, kaMore_num]
      rw [decide_eq_false hb] at hy
      simp only [Bool.or_false, Bool.false_or] at hy
      rw [← hy]
      cases (kAg bs fr q1 false).2.2 with
      | true => rfl
      | false =>
        simp only [Bool.false_eq_true, if_false]
        cases kaOn W m ((p + f) % 18446744073709551616 + 1) (bs.drop (kAg bs fr q1 false).2.1) <;> rfl
theorem kaAll_num {bs : List Nat} {W n p : Nat} {b : Bool} (e : numR bs 0 false = (n, p, b)) : kaAll W bs = if b || decide (64 < n) then none else kaOn W n 0 (bs.drop p) := by
  have h : rd bs = if b then none else some (n, bs.drop p) := by
    have := rd_num (bs := bs) (p := 0)
    rw [e] at this
    simpa using this
  unfold kaAll
  rw [h]
  cases b with
  | true => simp
  | false =>
    by_cases h64 : 64 < n
    · simp [h64]
    · simp [h64]
theorem getA_none {bs : List Nat} {k : Int} {W : Nat} (hk : coarse k) (hW : wid k = (W : Int)) (hb : ∀ c ∈ bs, c < 256) (h : kaAll W bs = none) : getA (wid k) bs = none := by rw [kaAll_says hk hW hb, h]
theorem getA_of {bs : List Nat} {k : Int} {W : Nat} {l : List Ag} {p : Nat} (hk : coarse k) (hW : wid k = (W : Int)) (hb : ∀ c ∈ bs, c < 256) (hp : p ≤ bs.length) (h : kaAll W bs = some (l, bs.drop p)) : getA (wid k) bs = if p = bs.length ∧ Align l k then some l else none := by
  rw [kaAll_says hk hW hb, h]
  by_cases e : p = bs.length
  · have : bs.drop p = [] := by rw [e]; simp
    rw [this]
    simp [e]
  · rw [if_neg (fun h => e h.1)]
    rcases hd : bs.drop p with _ | ⟨x, r⟩
    · have := congrArg List.length hd
      simp at this
      omega
    · rfl
theorem kAg_in {bs : List Nat} {fr : Int} {p : Nat} {bad : Bool} (hb : ∀ c ∈ bs, c < 256) (hp : p ≤ bs.length) (hf : In64 fr) : (kAg bs fr p bad).1.ok ∧ (kAg bs fr p bad).2.1 ≤ bs.length := by
  unfold kAg
  simp only
  have n1 := numR_le (bad := false) hb hp
  generalize numR bs p false = y1 at *
  have n2 := numR_le (bad := false) hb n1.1
  generalize numR bs y1.2.1 false = y2 at *
  have n3 := numR_le (bad := false) hb n2.1
  generalize numR bs y2.2.1 false = y3 at *
  have n4 := numR_le (bad := false) hb n3.1
  generalize numR bs y3.2.1 false = y4 at *
  have n5 := numR_le (bad := false) hb n4.1
  generalize numR bs y4.2.1 false = y5 at *
  have n6 := numR_le (bad := false) hb n5.1
  generalize numR bs y5.2.1 false = y6 at *
  have z2 : In64 (zag (y2.1 : Int)) := zag_range _ (by omega) (by omega)
  have z4 : In64 (zag (y4.1 : Int)) := zag_range _ (by omega) (by omega)
  split
  · exact ⟨⟨hf, by unfold Ag.one In64; simp only; omega, z2, z2, z2, z2, z2⟩, n2.1⟩
  · exact ⟨⟨hf, w64_in _, z4, z2, w64_in _, w64_in _, w64_in _⟩, n6.1⟩

/-- Amid a round: the reader, the row of the call's own. -/
structure KNMid (w wr : World) (gR : Nat) (A : Option Addr) (len cap : Nat) (bs : List Nat) (p : Nat) (bad : Bool) (V : Value) (out : List Ag) : Prop where
  pos : RB wr w.heap.size gR A len cap bs p bad
  own : wr.ownsRow w.heap.size 70 7 V out.length (aggV out)
  below : Below w.heap.size w wr
  ap : ∀ k, V.ownBlock = some k → k ≠ gR
section
variable {w wr w' : World} {gR : Nat} {A : Option Addr} {len cap : Nat} {bs : List Nat} {p q : Nat} {bad b : Bool} {V : Value} {out : List Ag}
theorem own7_grown {base n : Nat} {xs : List Value} {row : Option Nat} (h : wr.ownsRow base 70 7 V n xs) (hg : wr.grownBy w' row) (hne : ∀ k, V.ownBlock = some k → some k ≠ row) : w'.ownsRow base 70 7 V n xs :=
  h.kept hg (by
    rcases e : V.ownBlock with _ | k
    · exact .inl rfl
    · exact .inr (hne k e))
theorem KNMid.num (h : KNMid w wr gR A len cap bs p bad V out) (hr : RB w' w.heap.size gR A len cap bs q b) (hg : wr.grownBy w' (some gR)) : KNMid w w' gR A len cap bs q b V out :=
  ⟨hr, own7_grown h.own hg (fun k e e2 => h.ap k e (by injection e2)), h.below.grown hg h.below.size (fun k e => by injection e with e; subst e; exact h.pos.base), h.ap⟩
theorem KNMid.all (h : KNMid w wr gR A len cap bs p bad V out) (o : Obj) : KNMid w (wr.alloc o) gR A len cap bs p bad V out :=
  ⟨h.pos.grown (g_all wr o none) (by simp) (fun k e => by cases e), own7_grown h.own (g_all wr o none) (fun k _ => by simp), past_alloc h.below o, h.ap⟩
/-- Behind an append. -/
theorem KNMid.app (h : KNMid w wr gR A len cap bs p bad V out) {o : Obj} {g2 cap2 : Nat} {x : Ag} (hown : w'.ownsRow w.heap.size 70 7 (.slice (some ⟨g2, 0, none⟩) (out.length + 1) cap2) (out.length + 1) (aggV out ++ x.cells)) (hg : (wr.alloc o).grownBy w' V.ownBlock)
    (hat : V.ownBlock = some g2 ∨ g2 = (wr.alloc o).heap.size) : KNMid w w' gR A len cap bs p bad (.slice (some ⟨g2, 0, none⟩) (out.length + 1) cap2) (out ++ [x]) := by
  have hf : ∀ k, V.ownBlock = some k → w.heap.size ≤ k := fun k e => (h.own.lt k e).1
  have hsz : wr.heap.size ≤ (wr.alloc o).heap.size := by simp
  have h1 := h.all o
  refine ⟨h1.pos.grown hg (fun e => h.ap gR e.symm rfl) hf, ?_, h1.below.grown hg h1.below.size hf, ?_⟩
  · rw [aggV_append, aggV_one, List.length_append]
    exact hown
  · intro k e
    simp only [Value.ownBlock, Option.some.injEq] at e
    subst e
    rcases hat with e | e
    · exact h.ap _ e
    · have := h.pos.at_.lt
      omega
end
structure KNInv (w wr : World) (gR : Nat) (A : Option Addr) (len cap : Nat) (bs : List Nat) (W : Nat) (R : Option (List Ag × List Nat)) (n i : Nat) (lt p : Nat) (bad : Bool) (V : Value) (out : List Ag) : Prop where
  mid : KNMid w wr gR A len cap bs p bad V out
  ok : ∀ a ∈ out, a.ok
  len_ : out.length = i
  lo : lt ≤ 1099511627777
  says : bad = false → R = (kaOn W (n - i) lt (bs.drop p)).map fun y => (out ++ y.1, y.2)
  wrong : bad = true → R = none ∧ n = 0
end Go.Proofs.YtfojciolhokejaaDoor
