/-
  Plain: windows as the document's own reader takes them, with sums round 64 bits; it meets what bytes say.
  What the document's own reader of windows holds in its loop.
-/
import Derived.Test.YtepancmkopifpaaGreatDoorBRPutB
namespace Go.Proofs.YtepancmkopifpaaGreatDoor
set_option linter.unusedVariables false

theorem app_c (a : List Nat) (n : Nat) (L : List Nat) : a ++ bytesOf (n :: L) = (a ++ enc n) ++ bytesOf L := by
  rw [bytesOf_cons]
  simp
theorem numR_c (a : List Nat) {n : Nat} (L : List Nat) (h : n < 18446744073709551616) : numR (a ++ bytesOf (n :: L)) a.length false = (n, (a ++ enc n).length, false) := by
  rw [bytesOf_cons, numR_at a _ h, List.length_append]
/-- A window's number, from what is read and the window ahead. -/
def fOf (W : Int) (pre : Option Int) (f : Nat) : Int := match pre with
  | none => (f : Int)
  | some fr => ((f : Int) + 1 + (fr % 18446744073709551616) / W) % 18446744073709551616
/-- One window. -/
def rAg (bs : List Nat) (W : Int) (pre : Option Int) (p : Nat) (bad : Bool) : Ag × Nat × Bool :=
  let a := numR bs p bad
  let c := numR bs a.2.1 (a.2.2 || decide (1099511627776 < a.1))
  let m := numR bs c.2.1 c.2.2
  let x := numR bs m.2.1 m.2.2
  let s := numR bs x.2.1 x.2.2
  let f := numR bs s.2.1 s.2.2
  let l := numR bs f.2.1 f.2.2
  if 1 < ((c.1 % 4611686018427387904 : Nat) : Int) + 1 then
    (⟨w64 (fOf W pre a.1 * W), ((c.1 % 4611686018427387904 : Nat) : Int) + 1, zag (s.1 : Int), zag (m.1 : Int), w64 (zag (m.1 : Int) + x.1), w64 (zag (m.1 : Int) + f.1), w64 (zag (m.1 : Int) + l.1)⟩, l.2)
  else (⟨w64 (fOf W pre a.1 * W), ((c.1 % 4611686018427387904 : Nat) : Int) + 1, zag (m.1 : Int), zag (m.1 : Int), zag (m.1 : Int), zag (m.1 : Int), zag (m.1 : Int)⟩, m.2)
/-- So many windows, unless there is an error. -/
def rOn (bs : List Nat) (W : Int) : Nat → Option Int → Nat → Bool → List Ag × Nat × Bool
  | 0, _, p, bad => ([], p, bad)
  | n + 1, pre, p, bad => if bad then ([], p, bad) else
    let x := rAg bs W pre p bad
    let y := rOn bs W n (some x.1.fr) x.2.1 x.2.2
    (x.1 :: y.1, y.2)
def ablkAt (bs : List Nat) (W : Int) (p : Nat) (bad : Bool) : List Ag × Nat × Bool := rOn bs W (numR bs p bad).1 none (numR bs p bad).2.1 ((numR bs p bad).2.2 || decide (64 < (numR bs p bad).1))
def ablk (bs : List Nat) (W : Int) : List Ag × Nat × Bool := ablkAt bs W 0 false

def preOf (W : Int) : Option Int → Int
  | none => 0
  | some fr => fr / W + 1
theorem fOf_at {W fr : Int} {pre : Option Int} (hW : W = 5 ∨ W = 60 ∨ W = 1440) (hm : fr % W = 0) (hb : 0 ≤ fr ∧ fr ≤ 1099511627776) (hp : preOf W pre ≤ fr / W) (hpre : ∀ f, pre = some f → 0 ≤ f ∧ f ≤ 1099511627776) :
    w64 (fOf W pre (fr / W - preOf W pre).toNat * W) = fr ∧ (fr / W - preOf W pre).toNat ≤ 1099511627776 := by
  cases pre with
  | none =>
    simp only [fOf, preOf] at *
    rcases hW with rfl | rfl | rfl <;> unfold w64 <;> omega
  | some f =>
    have := hpre f rfl
    simp only [fOf, preOf] at *
    rcases hW with rfl | rfl | rfl <;> unfold w64 <;> omega
theorem rAg_at (a L : List Nat) {W : Int} {pre : Option Int} {x : Ag} (hW : W = 5 ∨ W = 60 ∨ W = 1440) (hm : x.may) (ho : x.ok) (h0 : x.fr % W = 0) (hp : preOf W pre ≤ x.fr / W) (hpre : ∀ f, pre = some f → 0 ≤ f ∧ f ≤ 1099511627776) :
    rAg (a ++ bytesOf (aOne W (preOf W pre) x ++ L)) W pre a.length false = (x, (a ++ bytesOf (aOne W (preOf W pre) x)).length, false) := by
  obtain ⟨f1, f2⟩ := fOf_at hW h0 hm.1 hp hpre
  have hc := hm.2.1
  unfold Ag.count at hc
  obtain ⟨z1, z2⟩ := zig_nat ho.2.2.2.1
  unfold aOne
  generalize (x.fr / W - preOf W pre).toNat = F at *
  obtain ⟨C, hC⟩ : ∃ C, (x.cn - 1).toNat = C := ⟨_, rfl⟩
  have hC1 : ((C % 4611686018427387904 : Nat) : Int) + 1 = x.cn := by omega
  have hCC : C < 18446744073709551616 := by omega
  rw [hC]
  generalize hM : (zig x.mn).toNat = M at *
  have hz : zag (M : Int) = x.mn := by rw [z1, zag_zig]
  by_cases h1 : 1 < x.cn
  · rw [if_pos h1]
    obtain ⟨X, x1, x2, _⟩ := sub_nat ho.2.2.2.2.1 ho.2.2.2.1 hm.2.2.1.1.2.2
    obtain ⟨I, y1, y2, _⟩ := sub_nat ho.2.2.2.2.2.1 ho.2.2.2.1 hm.2.2.1.1.1
    obtain ⟨V, v1, v2, _⟩ := sub_nat ho.2.2.2.2.2.2 ho.2.2.2.1 hm.2.2.1.1.2.1
    obtain ⟨s1, s2⟩ := zig_nat ho.2.2.1
    rw [x1, y1, v1]
    generalize hS : (zig x.sm).toNat = S at *
    have hs : zag (S : Int) = x.sm := by rw [s1, zag_zig]
    have k1 : w64 (x.mn + (X : Int)) = x.mx := by rw [show x.mn + (X : Int) = x.mx by have := hm.2.2.1.1.2.2; omega]; exact w64_id ho.2.2.2.2.1
    have k2 : w64 (x.mn + (I : Int)) = x.fi := by rw [show x.mn + (I : Int) = x.fi by have := hm.2.2.1.1.1; omega]; exact w64_id ho.2.2.2.2.2.1
    have k3 : w64 (x.mn + (V : Int)) = x.la := by rw [show x.mn + (V : Int) = x.la by have := hm.2.2.1.1.2.1; omega]; exact w64_id ho.2.2.2.2.2.2
    simp only [List.cons_append, List.nil_append]
    obtain ⟨B, hB⟩ : ∃ B, a ++ bytesOf (F :: C :: M :: X :: S :: I :: V :: L) = B := ⟨_, rfl⟩
    have q1 := numR_c a (C :: M :: X :: S :: I :: V :: L) (show F < 18446744073709551616 by omega)
    have q2 := numR_c (a ++ enc F) (M :: X :: S :: I :: V :: L) hCC
    have q3 := numR_c (a ++ enc F ++ enc C) (X :: S :: I :: V :: L) z2
    have q4 := numR_c (a ++ enc F ++ enc C ++ enc M) (S :: I :: V :: L) x2
    have q5 := numR_c (a ++ enc F ++ enc C ++ enc M ++ enc X) (I :: V :: L) s2
    have q6 := numR_c (a ++ enc F ++ enc C ++ enc M ++ enc X ++ enc S) (V :: L) y2
    have q7 := numR_c (a ++ enc F ++ enc C ++ enc M ++ enc X ++ enc S ++ enc I) L v2
    simp only [← app_c] at q2 q3 q4 q5 q6 q7
    rw [hB] at q1 q2 q3 q4 q5 q6 q7 ⊢
    have e : (a ++ bytesOf [F, C, M, X, S, I, V]).length = (a ++ enc F ++ enc C ++ enc M ++ enc X ++ enc S ++ enc I ++ enc V).length := by
      simp [bytesOf]
    rw [e]
    unfold rAg
    simp only [q1]
    rw [decide_eq_false (show ¬ 1099511627776 < F by omega)]
    simp only [Bool.or_false, q2, q3, q4, q5, q6, q7]
    rw [hC1, if_pos h1, f1, hz, hs, k1, k2, k3]
  · rw [if_neg h1]
    have hal : x.alike := by rcases hm.2.2.2 with h | h; exact absurd h h1; exact h
    unfold Ag.alike at hal
    simp only [List.cons_append, List.nil_append]
    obtain ⟨B, hB⟩ : ∃ B, a ++ bytesOf (F :: C :: M :: L) = B := ⟨_, rfl⟩
    have q1 := numR_c a (C :: M :: L) (show F < 18446744073709551616 by omega)
    have q2 := numR_c (a ++ enc F) (M :: L) hCC
    have q3 := numR_c (a ++ enc F ++ enc C) L z2
    simp only [← app_c] at q2 q3
    rw [hB] at q1 q2 q3 ⊢
    have e : (a ++ bytesOf [F, C, M]).length = (a ++ enc F ++ enc C ++ enc M).length := by
      simp [bytesOf]
    rw [e]
    unfold rAg
    simp only [q1]
    rw [decide_eq_false (show ¬ 1099511627776 < F by omega)]
    simp only [Bool.or_false, q2, q3]
    rw [hC1, if_neg h1, f1, hz]
    obtain ⟨fr, cn, sm, mn, mx, fi, la⟩ := x
    simp only at hal ⊢
    obtain ⟨rfl, rfl, rfl, rfl⟩ := hal
    rfl
theorem rOn_at {W : Int} (hW : W = 5 ∨ W = 60 ∨ W = 1440) : ∀ (l : List Ag) (pre : Option Int) (a : List Nat), AlOn W (preOf W pre) l → AIn l → (∀ f, pre = some f → 0 ≤ f ∧ f ≤ 1099511627776) →
    rOn (a ++ bytesOf (aOn W (preOf W pre) l)) W l.length pre a.length false = (l, (a ++ bytesOf (aOn W (preOf W pre) l)).length, false)
  | [], pre, a, _, _, _ => by simp [rOn, aOn, bytesOf]
  | x :: r, pre, a, h, ho, hpre => by
    obtain ⟨h1, h2, h3, h4⟩ := h
    have e := rAg_at a (aOn W (x.fr / W + 1) r) hW h1 (ho x (by simp)) h2 h3 hpre
    have ih := rOn_at hW r (some x.fr) (a ++ bytesOf (aOne W (preOf W pre) x)) h4 (fun y hy => ho y (by simp [hy])) (fun f hf => by injection hf with hf; subst hf; exact h1.1)
    have e2 : a ++ bytesOf (aOn W (preOf W pre) (x :: r)) = (a ++ bytesOf (aOne W (preOf W pre) x)) ++ bytesOf (aOn W (preOf W (some x.fr)) r) := by
      rw [aOn, bytesOf_app]
      simp [preOf]
    rw [← e2] at ih
    rw [show aOne W (preOf W pre) x ++ aOn W (x.fr / W + 1) r = aOn W (preOf W pre) (x :: r) from rfl] at e
    simp only [List.length_cons, rOn, Bool.false_eq_true, if_false, e, ih]
theorem ablk_put {k : Int} {l : List Ag} (h : AOk k l) (ho : AIn l) : (ablk (putA (wid k) l) (wid k)).1 = l ∧ (ablk (putA (wid k) l) (wid k)).2.2 = false := by
  have hl := h.2
  have hal := (align_iff l h.1.1).1 h.1
  have hW := wid_three h.1.1
  generalize wid k = W at *
  have q := numR_c [] (aOn W 0 l) (show l.length < 18446744073709551616 by omega)
  have r := rOn_at hW l none ([] ++ enc l.length) hal ho (fun f hf => by cases hf)
  simp only [preOf] at r
  rw [← app_c] at r
  have e : putA W l = [] ++ bytesOf (l.length :: aOn W 0 l) := by unfold putA; simp
  rw [← e] at q r
  unfold ablk ablkAt
  rw [show (0 : Nat) = ([] : List Nat).length from rfl, q]
  simp only
  rw [decide_eq_false (show ¬ 64 < l.length by omega)]
  simp only [Bool.or_false]
  rw [r]
  exact ⟨rfl, rfl⟩
theorem rAg_in {bs : List Nat} {W : Int} {pre : Option Int} {p : Nat} {bad : Bool} (hb : ∀ c ∈ bs, c < 256) (hp : p ≤ bs.length) : (rAg bs W pre p bad).1.ok ∧ (rAg bs W pre p bad).2.1 ≤ bs.length := by
  unfold rAg
  simp only
  have n1 := numR_le (bad := bad) hb hp
  generalize numR bs p bad = y1 at *
  have n2 := numR_le (bad := (y1.2.2 || decide (1099511627776 < y1.1))) hb n1.1
  generalize numR bs y1.2.1 (y1.2.2 || decide (1099511627776 < y1.1)) = y2 at *
  have n3 := numR_le (bad := y2.2.2) hb n2.1
  generalize numR bs y2.2.1 y2.2.2 = y3 at *
  have n4 := numR_le (bad := y3.2.2) hb n3.1
  generalize numR bs y3.2.1 y3.2.2 = y4 at *
  have n5 := numR_le (bad := y4.2.2) hb n4.1
  generalize numR bs y4.2.1 y4.2.2 = y5 at *
  have n6 := numR_le (bad := y5.2.2) hb n5.1
  generalize numR bs y5.2.1 y5.2.2 = y6 at *
  have n7 := numR_le (bad := y6.2.2) hb n6.1
  generalize numR bs y6.2.1 y6.2.2 = y7 at *
  have z3 : In64 (zag (y3.1 : Int)) := zag_range _ (by omega) (by omega)
  have z5 : In64 (zag (y5.1 : Int)) := zag_range _ (by omega) (by omega)
  have hc : In64 (((y2.1 % 4611686018427387904 : Nat) : Int) + 1) := by unfold In64; omega
  split
  · exact ⟨⟨w64_in _, hc, z5, z3, w64_in _, w64_in _, w64_in _⟩, n7.1⟩
  · exact ⟨⟨w64_in _, hc, z3, z3, z3, z3, z3⟩, n3.1⟩
theorem rOn_in {bs : List Nat} {W : Int} (hb : ∀ c ∈ bs, c < 256) : ∀ (n : Nat) (pre : Option Int) (p : Nat) (bad : Bool), p ≤ bs.length → AIn (rOn bs W n pre p bad).1
  | 0, pre, p, bad, hp => fun y hy => by simp [rOn] at hy
  | n + 1, pre, p, bad, hp => by
    rw [rOn]
    split
    · exact fun y hy => by simp at hy
    · have h1 := rAg_in (W := W) (pre := pre) (bad := bad) hb hp
      have ih := rOn_in (W := W) hb n (some (rAg bs W pre p bad).1.fr) _ (rAg bs W pre p bad).2.2 h1.2
      intro y hy
      simp only [List.mem_cons] at hy
      rcases hy with rfl | hy
      · exact h1.1
      · exact ih y hy
theorem ablk_in {bs : List Nat} {W : Int} (hb : ∀ c ∈ bs, c < 256) : AIn (ablk bs W).1 :=
  rOn_in hb _ _ _ _ (numR_le (bad := false) hb (Nat.zero_le _)).1
/-- The document's own answer, and what bytes say. -/
theorem ablk_says {bs : List Nat} {k : Int} (hk : coarse k) (hb : ∀ c ∈ bs, c < 256) : getA (wid k) bs = if (ablk bs (wid k)).2.2 = false ∧ AOk k (ablk bs (wid k)).1 ∧ putA (wid k) (ablk bs (wid k)).1 = bs then some (ablk bs (wid k)).1 else none := by
  split
  · next h =>
    have := getA_putA h.2.1 (ablk_in hb)
    rw [h.2.2] at this
    exact this
  · next h =>
    cases e : getA (wid k) bs with
    | none => rfl
    | some l =>
      obtain ⟨h1, h2, h3⟩ := putA_getA hk hb e
      obtain ⟨g1, g2⟩ := ablk_put h2 h3
      rw [h1] at g1 g2
      exact absurd ⟨g2, by rw [g1]; exact h2, by rw [g1]; exact h1⟩ h
end Go.Proofs.YtepancmkopifpaaGreatDoor
namespace Go.Proofs.YtepancmkopifpaaGreatDoor
open Go.RowKit
set_option linter.unusedVariables false

def preAt (out : List Ag) (i : Nat) : Option Int := match i with | 0 => none | j + 1 => some (agAt out j).fr
structure AKInv (w wr : World) (g : Nat) (s : ByteArray) (bs : List Nat) (W : Int) (R : List Ag × Nat × Bool) (n i : Nat) (out : List Ag) (V : Value) (p : Nat) (bad : Bool) : Prop where
  pos : CAt wr g s p bad
  own : wr.ownsRow w.heap.size 50 7 V out.length (aggV out)
  ok : ∀ a ∈ out, a.ok
  len : out.length = i
  le : p ≤ bs.length
  grown : w.grownBy wr (some g)
  says : R = (out ++ (rOn bs W (n - i) (preAt out i) p bad).1, (rOn bs W (n - i) (preAt out i) p bad).2)
theorem AKInv.done {w wr : World} {g : Nat} {s : ByteArray} {bs : List Nat} {W : Int} {R : List Ag × Nat × Bool} {n i : Nat} {out : List Ag} {V : Value} {p : Nat} {bad : Bool} (h : AKInv w wr g s bs W R n i out V p bad) (hd : ¬ (i < n ∧ bad = false)) : R = (out, p, bad) := by
  have e : rOn bs W (n - i) (preAt out i) p bad = ([], p, bad) := by
    rcases Nat.lt_or_ge i n with hl | hl
    · have hb : bad = true := by cases bad <;> simp_all
      subst hb
      obtain ⟨m, hm⟩ : ∃ m, n - i = m + 1 := ⟨n - (i + 1), by omega⟩
      rw [hm]
      rfl
    · rw [show n - i = 0 by omega]
      rfl
  rw [h.says, e]
  simp
theorem AKInv.next {w wr wa : World} {g : Nat} {s : ByteArray} {bs : List Nat} {W : Int} {R : List Ag × Nat × Bool} {n i : Nat} {out : List Ag} {V V' : Value} {p q : Nat} {bad : Bool} {x : Ag} (h : AKInv w wr g s bs W R n i out V p false) (hn : i < n) (hb : ∀ c ∈ bs, c < 256)
    (e : rAg bs W (preAt out i) p false = (x, q, bad)) (hc : CAt wa g s q bad) (hg : w.grownBy wa (some g)) (ho : wa.ownsRow w.heap.size 50 7 V' (out.length + 1) (aggV (out ++ [x]))) : AKInv w wa g s bs W R n (i + 1) (out ++ [x]) V' q bad := by
  have hl := h.len
  have hin := rAg_in (W := W) (pre := preAt out i) (bad := false) hb h.le
  rw [e] at hin
  obtain ⟨m, hm⟩ : ∃ m, n - i = m + 1 := ⟨n - (i + 1), by omega⟩
  have hm2 : n - (i + 1) = m := by omega
  have hget : preAt (out ++ [x]) (i + 1) = some x.fr := by
    simp only [preAt, agAt]
    rw [List.getD_eq_getElem?_getD, List.getElem?_append_right (by omega), hl, Nat.sub_self]
    rfl
  refine ⟨hc, by rw [List.length_append]; exact ho, ?_, by rw [List.length_append, hl]; rfl, hin.2, hg, ?_⟩
  · intro y hy
    rw [List.mem_append, List.mem_singleton] at hy
    rcases hy with hy | rfl
    · exact h.ok y hy
    · exact hin.1
  · rw [h.says, hm, hm2, hget]
    simp only [rOn, Bool.false_eq_true, if_false, e]
    simp
theorem own7_num {wr w' : World} {base g n : Nat} {V : Value} {xs : List Value} (ho : wr.ownsRow base 50 7 V n xs) (hg : wr.grownBy w' (some g)) (hlt : g < base) : w'.ownsRow base 50 7 V n xs :=
  ho.kept hg (Or.inr fun e => by have := (ho.lt g e).1; omega)
/-- Behind an append. -/
theorem app7_num {w wr wa : World} {g n : Nat} {s : ByteArray} {p : Nat} {bad : Bool} {V : Value} {xs : List Value} {o : Obj} (hlt : g < w.heap.size) (hc : CAt wr g s p bad) (hg : w.grownBy wr (some g)) (ho : wr.ownsRow w.heap.size 50 7 V n xs)
    (ha : (wr.alloc o).grownBy wa V.ownBlock) : CAt wa g s p bad ∧ w.grownBy wa (some g) := by
  have hf : ∀ k, V.ownBlock = some k → w.heap.size ≤ k := fun k e => (ho.lt k e).1
  have h1 : CAt (wr.alloc o) g s p bad := hc.grown (World.grownBy_alloc wr o none) (by simp)
  refine ⟨h1.grown ha (fun e => ?_), ?_⟩
  · have := hf g e.symm
    omega
  · exact grown_then (grown_then hg (World.grownBy_alloc wr o none) (fun j e => by simp at e)) ha (fun j e => Or.inl (hf j e))
def AggPost (bs : List Nat) (g : Nat) (s : ByteArray) (R : List Ag × Nat × Bool) (w : World) (e : Ending) (w' : World) : Prop :=
  ∃ V, e = .returned V ∧ w'.ownsRow w.heap.size 50 7 V R.1.length (aggV R.1) ∧ (∀ a ∈ R.1, a.ok) ∧ CAt w' g s R.2.1 R.2.2 ∧ R.2.1 ≤ bs.length ∧ w.grownBy w' (some g)
/-- Amid a round: the reader stands at p, the row is the call's own, and the window that is read lies at A, apart from both. -/
structure AMid (w wr : World) (g : Nat) (s : ByteArray) (p : Nat) (bad : Bool) (V : Value) (out : List Ag) (A : Nat) (x : Ag) : Prop where
  pos : CAt wr g s p bad
  own : wr.ownsRow w.heap.size 50 7 V out.length (aggV out)
  grown : w.grownBy wr (some g)
  low : g < w.heap.size
  base : w.heap.size ≤ A
  top : A < wr.heap.size
  apart : ∀ k, V.ownBlock = some k → k ≠ A
  holds : Holds wr A x
  free : Free wr A
theorem grown_cell (w : World) (A j : Nat) (v : Value) : w.grownBy (w.setCell ⟨A, j, none⟩ v) (some A) :=
  ⟨rfl, rfl, rfl, by simp [World.setCell], fun k _ hk => by
    have hne : k ≠ A := fun e => hk (by rw [e])
    rw [Below.heap_setCell _ _ _ _ (fun e => hne e)]⟩
theorem AMid.num {w wr w' : World} {g : Nat} {s : ByteArray} {p q : Nat} {bad b : Bool} {V : Value} {out : List Ag} {A : Nat} {x : Ag} (h : AMid w wr g s p bad V out A x) (hc : CAt w' g s q b) (hg : wr.grownBy w' (some g)) : AMid w w' g s q b V out A x := by
  have hne : some A ≠ some g := fun e => by injection e with e; have := h.low; have := h.base; omega
  have c := fun k => hg.cell_far ⟨A, k, none⟩ h.top hne
  have f := fun k => hg.frozen_far ⟨A, k, none⟩ h.top hne
  refine ⟨hc, own7_num h.own hg h.low, h.grown.trans hg, h.low, h.base, Nat.lt_of_lt_of_le h.top hg.size, h.apart, ?_, ?_⟩
  · obtain ⟨h0, h1, h2, h3, h4, h5, h6⟩ := h.holds
    unfold Holds
    simp only [c]
    exact ⟨h0, h1, h2, h3, h4, h5, h6⟩
  · obtain ⟨h0, h1, h2, h3, h4, h5, h6⟩ := h.free
    unfold Free
    simp only [f]
    exact ⟨h0, h1, h2, h3, h4, h5, h6⟩
/-- Behind a store into the window. -/
theorem AMid.store {w wr : World} {g : Nat} {s : ByteArray} {p : Nat} {bad : Bool} {V : Value} {out : List Ag} {A : Nat} {x : Ag} (h : AMid w wr g s p bad V out A x) (j : Nat) (v : Value) {y : Ag} (hy : Holds (wr.setCell ⟨A, j, none⟩ v) A y) (hf : Free (wr.setCell ⟨A, j, none⟩ v) A) : AMid w (wr.setCell ⟨A, j, none⟩ v) g s p bad V out A y := by
  have hg := grown_cell wr A j v
  have hne : some g ≠ some A := fun e => by injection e with e; have := h.low; have := h.base; omega
  refine ⟨h.pos.grown hg hne, h.own.kept hg ?_, grown_then h.grown hg (fun k e => by injection e with e; subst e; exact Or.inl h.base), h.low, h.base, Nat.lt_of_lt_of_le h.top hg.size, h.apart, hy, hf⟩
  rcases hV : V.ownBlock with _ | k
  · exact Or.inl rfl
  · exact Or.inr (fun e => h.apart k hV (by injection e))
theorem AMid.set2 {w wr : World} {g : Nat} {s : ByteArray} {p : Nat} {bad : Bool} {V : Value} {out : List Ag} {A : Nat} {x : Ag} (h : AMid w wr g s p bad V out A x) (v : Int) : AMid w (wr.setCell ⟨A, 2, none⟩ (.int .i64 v)) g s p bad V out A { x with sm := v } := by
  obtain ⟨h0, h1, h2, h3, h4, h5, h6⟩ := h.holds
  obtain ⟨f0, f1, f2, f3, f4, f5, f6⟩ := h.free
  refine h.store 2 _ ?_ ?_
  · unfold Holds
    simp [go_sem, *]
  · unfold Free
    simp [go_sem, *]
theorem AMid.set3 {w wr : World} {g : Nat} {s : ByteArray} {p : Nat} {bad : Bool} {V : Value} {out : List Ag} {A : Nat} {x : Ag} (h : AMid w wr g s p bad V out A x) (v : Int) : AMid w (wr.setCell ⟨A, 3, none⟩ (.int .i64 v)) g s p bad V out A { x with mn := v } := by
  obtain ⟨h0, h1, h2, h3, h4, h5, h6⟩ := h.holds
  obtain ⟨f0, f1, f2, f3, f4, f5, f6⟩ := h.free
  refine h.store 3 _ ?_ ?_
  · unfold Holds
    simp [go_sem, *]
  · unfold Free
    simp [go_sem, *]
theorem AMid.set4 {w wr : World} {g : Nat} {s : ByteArray} {p : Nat} {bad : Bool} {V : Value} {out : List Ag} {A : Nat} {x : Ag} (h : AMid w wr g s p bad V out A x) (v : Int) : AMid w (wr.setCell ⟨A, 4, none⟩ (.int .i64 v)) g s p bad V out A { x with mx := v } := by
  obtain ⟨h0, h1, h2, h3, h4, h5, h6⟩ := h.holds
  obtain ⟨f0, f1, f2, f3, f4, f5, f6⟩ := h.free
  refine h.store 4 _ ?_ ?_
  · unfold Holds
    simp [go_sem, *]
  · unfold Free
    simp [go_sem, *]
theorem AMid.set5 {w wr : World} {g : Nat} {s : ByteArray} {p : Nat} {bad : Bool} {V : Value} {out : List Ag} {A : Nat} {x : Ag} (h : AMid w wr g s p bad V out A x) (v : Int) : AMid w (wr.setCell ⟨A, 5, none⟩ (.int .i64 v)) g s p bad V out A { x with fi := v } := by
  obtain ⟨h0, h1, h2, h3, h4, h5, h6⟩ := h.holds
  obtain ⟨f0, f1, f2, f3, f4, f5, f6⟩ := h.free
  refine h.store 5 _ ?_ ?_
  · unfold Holds
    simp [go_sem, *]
  · unfold Free
    simp [go_sem, *]
theorem AMid.set6 {w wr : World} {g : Nat} {s : ByteArray} {p : Nat} {bad : Bool} {V : Value} {out : List Ag} {A : Nat} {x : Ag} (h : AMid w wr g s p bad V out A x) (v : Int) : AMid w (wr.setCell ⟨A, 6, none⟩ (.int .i64 v)) g s p bad V out A { x with la := v } := by
  obtain ⟨h0, h1, h2, h3, h4, h5, h6⟩ := h.holds
  obtain ⟨f0, f1, f2, f3, f4, f5, f6⟩ := h.free
  refine h.store 6 _ ?_ ?_
  · unfold Holds
    simp [go_sem, *]
  · unfold Free
    simp [go_sem, *]
end Go.Proofs.YtepancmkopifpaaGreatDoor
