/-
  The document's own answer for a block's bytes: what it returns of every row of samples; nothing that was there is written.
  The document's own reader of numbers: what it returns, where it stands behind it; nothing else is written.
  Plain: samples as the document's own reader takes them, with sums round 64 bits; it meets what bytes say.
-/
import Derived.Test.YtepancmkopifpaaDoorVRefGet
import Derived.Test.YtepancmkopifpaaDoorRRise
import Derived.Test.YtepancmkopifpaaDoorBMore
namespace Go.Proofs.YtepancmkopifpaaDoor
open Go.RowKit
set_option linter.unusedVariables false

theorem strB_app (a b : List Nat) : strB a ++ strB b = strB (a ++ b) := by
  apply ByteArray.ext
  simp [strB, strOfNums]
instance (l : List (Int × Int)) : Decidable (BOk l) := by unfold BOk; infer_instance
theorem bytesOf_app (a b : List Nat) : bytesOf (a ++ b) = bytesOf a ++ bytesOf b := by simp [bytesOf]
theorem bytesOf_len : ∀ (l : List Nat), (∀ n ∈ l, n < 18446744073709551616) → (bytesOf l).length ≤ 10 * l.length
  | [], _ => by simp [bytesOf]
  | n :: r, h => by
    have h1 := enc_len_le (h n (by simp))
    have h2 := bytesOf_len r (fun m hm => h m (by simp [hm]))
    rw [bytesOf_cons, List.length_append, List.length_cons]
    omega

/-- The numbers of the samples from i on, behind those ahead. -/
def sFrom (l : List (Int × Int)) (i : Nat) (s : Int) : List Nat :=
  match i with
  | 0 => match l with | [] => [] | x :: r => x.1.toNat :: (zig x.2).toNat :: sOn x.1 0 x.2 r
  | i + 1 => sOn (l.getD i (0, 0)).1 s (l.getD i (0, 0)).2 (l.drop (i + 1))
theorem sFrom_zero (l : List (Int × Int)) : sNums l = l.length :: sFrom l 0 0 := by
  cases l <;> rfl
theorem sFrom_first {x : Int × Int} {r : List (Int × Int)} : sFrom (x :: r) 0 0 = x.1.toNat :: (zig x.2).toNat :: sFrom (x :: r) 1 0 := by
  simp [sFrom]
theorem sFrom_next {l : List (Int × Int)} {i : Nat} {s : Int} (h : i + 1 < l.length) : sFrom l (i + 1) s =
    (zig ((l.getD (i + 1) (0, 0)).1 - (l.getD i (0, 0)).1 - s)).toNat :: (zig (w64 ((l.getD (i + 1) (0, 0)).2 - (l.getD i (0, 0)).2))).toNat :: sFrom l (i + 2) ((l.getD (i + 1) (0, 0)).1 - (l.getD i (0, 0)).1) := by
  have e : l.drop (i + 1) = l.getD (i + 1) (0, 0) :: l.drop (i + 2) := by
    rw [List.drop_eq_getElem_cons h]
    simp [h]
  simp only [sFrom]
  rw [e, sOn]
theorem sFrom_end {l : List (Int × Int)} {s : Int} (h : l.length ≤ l.length) (h0 : 0 < l.length) : sFrom l l.length s = [] := by
  obtain ⟨n, hn⟩ : ∃ n, l.length = n + 1 := ⟨l.length - 1, by omega⟩
  rw [hn]
  simp only [sFrom]
  rw [List.drop_eq_nil_of_le (by omega)]
  rfl

/-- What the loop holds. -/
structure BPInv (w wr : World) (l : List (Int × Int)) (i : Nat) (s : Int) (S : ByteArray) : Prop where
  says : ∃ d : List Nat, S = strB d ∧ putB l = d ++ bytesOf (sFrom l i s) ∧ d.length ≤ 10 + 20 * i
  step : 0 ≤ s ∧ s ≤ 1099511627776
  none : i = 0 → s = 0
  below : Below w.heap.size w wr

end Go.Proofs.YtepancmkopifpaaDoor
namespace Go.Proofs.YtepancmkopifpaaDoor
open Go.RowKit
set_option linter.unusedVariables false

/-- The string s has the bytes bs. -/
def StrIs (s : ByteArray) (bs : List Nat) : Prop := s.size = bs.length ∧ (∀ c ∈ bs, c < 256) ∧ s.size ≤ 1000 ∧ ∀ j (h : j < s.size), (s[j]'h).toNat = bs.getD j 0
/-- The reader at block g stands at p; bad: it has met an error. -/
structure CAt (w : World) (g : Nat) (s : ByteArray) (p : Nat) (bad : Bool) : Prop where
  c0 : w.cell? ⟨g, 0, none⟩ = some (.string s)
  c1 : w.cell? ⟨g, 1, none⟩ = some (.int .i64 (p : Int))
  c2 : w.cell? ⟨g, 2, none⟩ = some (.bool bad)
  f1 : w.frozen? ⟨g, 1, none⟩ = false
  f2 : w.frozen? ⟨g, 2, none⟩ = false
theorem CAt.lt {w : World} {g : Nat} {s : ByteArray} {p : Nat} {bad : Bool} (h : CAt w g s p bad) : g < w.heap.size := World.block_lt_of_cell? w _ h.c0
theorem CAt.below {w w' : World} {g : Nat} {s : ByteArray} {p : Nat} {bad : Bool} (h : CAt w g s p bad) (hb : Below w.heap.size w w') : CAt w' g s p bad :=
  ⟨by rw [hb.cell h.lt]; exact h.c0, by rw [hb.cell h.lt]; exact h.c1, by rw [hb.cell h.lt]; exact h.c2, by rw [hb.frozen h.lt]; exact h.f1, by rw [hb.frozen h.lt]; exact h.f2⟩
/-- A number read at p: it, where the next one stands, whether there was none. -/
def numR (bs : List Nat) (p : Nat) : Bool → Nat × Nat × Bool
  | true => (0, p, true)
  | false => match dec 0 0 (bs.drop p) with
    | some (v, k) => (v, p + k, false)
    | none => (0, p, true)
theorem numR_le {bs : List Nat} {p : Nat} {bad : Bool} (hb : ∀ c ∈ bs, c < 256) (hp : p ≤ bs.length) : (numR bs p bad).2.1 ≤ bs.length ∧ (numR bs p bad).1 < 18446744073709551616 := by
  cases bad with
  | true => exact ⟨hp, by show 0 < 18446744073709551616; decide⟩
  | false =>
    unfold numR
    simp only
    split
    · next v k hd =>
      obtain ⟨n, e, h1, h2, h3, _⟩ := dec_only _ 0 0 v k (fun c hc => hb c (List.mem_of_mem_drop hc)) (by decide) hd
      simp only [Nat.pow_zero, Nat.mul_one, Nat.zero_add] at e h1
      rw [List.length_drop] at h3
      subst e
      exact ⟨by simp only; omega, h1⟩
    · exact ⟨hp, by show 0 < 18446744073709551616; decide⟩
theorem c_set {w : World} {g : Nat} {s : ByteArray} {p : Nat} {bad : Bool} (h : CAt w g s p bad) (p' : Nat) (bad' : Bool) : CAt ((w.setCell ⟨g, 1, none⟩ (.int .i64 (p' : Int))).setCell ⟨g, 2, none⟩ (.bool bad')) g s p' bad' := by
  obtain ⟨c0, c1, c2, f1, f2⟩ := h
  constructor <;> simp [go_sem, *]
theorem g_set (w : World) (g : Nat) (a b : Value) : w.grownBy ((w.setCell ⟨g, 1, none⟩ a).setCell ⟨g, 2, none⟩ b) (some g) :=
  ⟨rfl, rfl, rfl, by simp [World.setCell], fun k _ hk => by
    have hne : k ≠ g := fun e => hk (by rw [e])
    rw [Below.heap_setCell _ _ _ _ (fun e => hne e), Below.heap_setCell _ _ _ _ (fun e => hne e)]⟩
def NumPost (bs : List Nat) (g : Nat) (s : ByteArray) (p : Nat) (bad : Bool) (w : World) (e : Ending) (w' : World) : Prop :=
  e = .returned (.int .u64 ((numR bs p bad).1 : Int)) ∧ CAt w' g s (numR bs p bad).2.1 (numR bs p bad).2.2 ∧ w.grownBy w' (some g)

end Go.Proofs.YtepancmkopifpaaDoor
namespace Go.Proofs.YtepancmkopifpaaDoor
set_option linter.unusedVariables false

theorem numR_at (a : List Nat) {n : Nat} (r : List Nat) (h : n < 18446744073709551616) : numR (a ++ (enc n ++ r)) a.length false = (n, a.length + (enc n).length, false) := by
  unfold numR
  simp only
  rw [List.drop_left, dec_enc0 n r h]
/-- Samples behind one: so many of them, unless there is an error. -/
def bOn (bs : List Nat) : Nat → Int → Int → Int → Nat → Bool → List (Int × Int) × Nat × Bool
  | 0, _, _, _, p, bad => ([], p, bad)
  | n + 1, t, v, s, p, bad =>
    if bad then ([], p, bad) else
    let a := numR bs p bad
    let c := numR bs a.2.1 a.2.2
    let s' := w64 (s + zag a.1)
    let x := (w64 (t + s'), w64 (v + zag c.1))
    let y := bOn bs n x.1 x.2 s' c.2.1 c.2.2
    (x :: y.1, y.2)
/-- All samples, unless there is an error. -/
def bAll (bs : List Nat) (n : Nat) (p : Nat) (bad : Bool) : List (Int × Int) × Nat × Bool :=
  match n with
  | 0 => ([], p, bad)
  | n + 1 => if bad then ([], p, bad) else
    let a := numR bs p bad
    let c := numR bs a.2.1 a.2.2
    let x := (w64 (a.1 : Int), zag (c.1 : Int))
    let y := bOn bs n x.1 x.2 0 c.2.1 c.2.2
    (x :: y.1, y.2)
def blk (bs : List Nat) : List (Int × Int) × Nat × Bool := bAll bs (numR bs 0 false).1 (numR bs 0 false).2.1 ((numR bs 0 false).2.2 || decide (64 < (numR bs 0 false).1))

theorem bOn_s : ∀ (l : List (Int × Int)) (t s v : Int) (a : List Nat), RiseOn t l → BIn l → 0 ≤ t → 0 ≤ s → s ≤ 1099511627776 → t ≤ 1099511627776 →
    bOn (a ++ bytesOf (sOn t s v l)) l.length t v s a.length false = (l, (a ++ bytesOf (sOn t s v l)).length, false)
  | [], t, s, v, a, _, _, _, _, _, _ => by simp [bOn, sOn, bytesOf]
  | x :: r, t, s, v, a, h, hi, h0, h1, h2, h3 => by
    obtain ⟨ha, hb, hr⟩ := h
    have hx := hi x (by simp)
    have hd : In64 (x.1 - t - s) := by unfold In64; omega
    obtain ⟨z1, z2⟩ := zig_nat hd
    obtain ⟨z3, z4⟩ := zig_nat (w64_in (x.2 - v))
    simp only [sOn, bytesOf_cons, List.length_cons, bOn, Bool.false_eq_true, if_false]
    rw [numR_at a _ z2]
    simp only
    have e0 : a ++ (enc (zig (x.1 - t - s)).toNat ++ (enc (zig (w64 (x.2 - v))).toNat ++ bytesOf (sOn x.1 (x.1 - t) x.2 r))) = (a ++ enc (zig (x.1 - t - s)).toNat) ++ (enc (zig (w64 (x.2 - v))).toNat ++ bytesOf (sOn x.1 (x.1 - t) x.2 r)) := by simp
    rw [e0, show a.length + (enc (zig (x.1 - t - s)).toNat).length = (a ++ enc (zig (x.1 - t - s)).toNat).length by simp, numR_at _ _ z4]
    simp only
    rw [z1, z3, zag_zig, zag_zig, w64_on hx.2]
    have e1 : w64 (s + (x.1 - t - s)) = x.1 - t := by rw [show s + (x.1 - t - s) = x.1 - t by omega]; exact w64_id (by unfold In64; omega)
    rw [e1]
    have e2 : w64 (t + (x.1 - t)) = x.1 := by rw [show t + (x.1 - t) = x.1 by omega]; exact w64_id hx.1
    rw [e2]
    have ih := bOn_s r x.1 (x.1 - t) x.2 ((a ++ enc (zig (x.1 - t - s)).toNat) ++ enc (zig (w64 (x.2 - v))).toNat) hr (fun y hy => hi y (by simp [hy])) (by omega) (by omega) (by omega) hb
    have e3 : (a ++ enc (zig (x.1 - t - s)).toNat) ++ (enc (zig (w64 (x.2 - v))).toNat ++ bytesOf (sOn x.1 (x.1 - t) x.2 r)) = ((a ++ enc (zig (x.1 - t - s)).toNat) ++ enc (zig (w64 (x.2 - v))).toNat) ++ bytesOf (sOn x.1 (x.1 - t) x.2 r) := by simp
    rw [e3, show (a ++ enc (zig (x.1 - t - s)).toNat).length + (enc (zig (w64 (x.2 - v))).toNat).length = ((a ++ enc (zig (x.1 - t - s)).toNat) ++ enc (zig (w64 (x.2 - v))).toNat).length by simp only [List.length_append], ih]
theorem blk_put {l : List (Int × Int)} (h : BOk l) (hi : BIn l) : (blk (putB l)).1 = l ∧ (blk (putB l)).2.2 = false := by
  have hr := (rise_iff l).1 h.1
  have hl := h.2
  match l, hr, hi, hl with
  | [], _, _, _ =>
    have e0 : putB [] = [] ++ (enc 0 ++ []) := by simp [putB, sNums, bytesOf]
    unfold blk
    rw [e0, show (0 : Nat) = ([] : List Nat).length from rfl, numR_at [] [] (by decide)]
    exact ⟨rfl, rfl⟩
  | x :: r, h, hi, hl =>
    obtain ⟨h0, h1, hr⟩ := h
    have hx := hi x (by simp)
    obtain ⟨z1, z2⟩ := zig_nat hx.2
    have hl' : r.length + 1 ≤ 64 := by simpa using hl
    have ht : ((x.1.toNat : Nat) : Int) = x.1 := by omega
    have e0 : putB (x :: r) = [] ++ (enc (r.length + 1) ++ (enc x.1.toNat ++ (enc (zig x.2).toNat ++ bytesOf (sOn x.1 0 x.2 r)))) := by simp [putB, sNums, bytesOf]
    have e1 : putB (x :: r) = enc (r.length + 1) ++ (enc x.1.toNat ++ (enc (zig x.2).toNat ++ bytesOf (sOn x.1 0 x.2 r))) := by rw [e0]; rfl
    have e2 : putB (x :: r) = (enc (r.length + 1) ++ enc x.1.toNat) ++ (enc (zig x.2).toNat ++ bytesOf (sOn x.1 0 x.2 r)) := by rw [e1]; simp
    have e3 : putB (x :: r) = ((enc (r.length + 1) ++ enc x.1.toNat) ++ enc (zig x.2).toNat) ++ bytesOf (sOn x.1 0 x.2 r) := by rw [e2]; simp
    have q0 : numR (putB (x :: r)) 0 false = (r.length + 1, (enc (r.length + 1)).length, false) := by
      rw [e0, show (0 : Nat) = ([] : List Nat).length from rfl, numR_at [] _ (by omega)]
      simp
    have q1 : numR (putB (x :: r)) (enc (r.length + 1)).length false = (x.1.toNat, (enc (r.length + 1) ++ enc x.1.toNat).length, false) := by
      rw [e1, numR_at _ _ (by omega)]
      simp
    have q2 : numR (putB (x :: r)) (enc (r.length + 1) ++ enc x.1.toNat).length false = ((zig x.2).toNat, ((enc (r.length + 1) ++ enc x.1.toNat) ++ enc (zig x.2).toNat).length, false) := by
      rw [e2, numR_at _ _ z2]
      simp only [List.length_append]
    have q3 := bOn_s r x.1 0 x.2 ((enc (r.length + 1) ++ enc x.1.toNat) ++ enc (zig x.2).toNat) hr (fun y hy => hi y (by simp [hy])) h0 (by omega) (by omega) h1
    rw [← e3] at q3
    unfold blk
    rw [q0]
    simp only
    rw [decide_eq_false (show ¬ 64 < r.length + 1 by omega)]
    simp only [Bool.or_false, bAll, Bool.false_eq_true, if_false]
    rw [q1]
    simp only
    rw [q2]
    simp only
    rw [ht, z1, zag_zig, w64_id hx.1, q3]
    exact ⟨rfl, rfl⟩
theorem bOn_in (bs : List Nat) : ∀ (n : Nat) (t v s : Int) (p : Nat) (bad : Bool), BIn (bOn bs n t v s p bad).1 ∧ (bOn bs n t v s p bad).1.length ≤ n
  | 0, t, v, s, p, bad => ⟨fun y hy => by simp [bOn] at hy, by simp [bOn]⟩
  | n + 1, t, v, s, p, bad => by
    rw [bOn]
    split
    · exact ⟨fun y hy => by simp at hy, by simp⟩
    · have ih := bOn_in bs n (w64 (t + w64 (s + zag (numR bs p bad).1))) (w64 (v + zag (numR bs (numR bs p bad).2.1 (numR bs p bad).2.2).1)) (w64 (s + zag (numR bs p bad).1)) (numR bs (numR bs p bad).2.1 (numR bs p bad).2.2).2.1 (numR bs (numR bs p bad).2.1 (numR bs p bad).2.2).2.2
      refine ⟨?_, by simp only [List.length_cons]; omega⟩
      intro y hy
      simp only [List.mem_cons] at hy
      rcases hy with rfl | hy
      · exact ⟨w64_in _, w64_in _⟩
      · exact ih.1 y hy
theorem blk_in {bs : List Nat} (hb : ∀ c ∈ bs, c < 256) : BIn (blk bs).1 := by
  unfold blk bAll
  split
  · exact fun y hy => by simp at hy
  · split
    · exact fun y hy => by simp at hy
    · intro y hy
      simp only [List.mem_cons] at hy
      rcases hy with rfl | hy
      · refine ⟨w64_in _, ?_⟩
        have h0 := numR_le (bs := bs) (p := 0) (bad := false) hb (by omega)
        have h1 := numR_le (bs := bs) (p := (numR bs 0 false).2.1) (bad := ((numR bs 0 false).2.2 || decide (64 < (numR bs 0 false).1))) hb h0.1
        have h2 := numR_le (bs := bs) (p := (numR bs (numR bs 0 false).2.1 ((numR bs 0 false).2.2 || decide (64 < (numR bs 0 false).1))).2.1) (bad := (numR bs (numR bs 0 false).2.1 ((numR bs 0 false).2.2 || decide (64 < (numR bs 0 false).1))).2.2) hb h1.1
        exact zag_range _ (by omega) (by omega)
      · exact (bOn_in bs _ _ _ _ _ _).1 y hy
/-- The document's own answer, and what bytes say. -/
theorem blk_says {bs : List Nat} (hb : ∀ c ∈ bs, c < 256) : getB bs = if (blk bs).2.2 = false ∧ BOk (blk bs).1 ∧ putB (blk bs).1 = bs then some (blk bs).1 else none := by
  split
  · next h =>
    have := getB_putB h.2.1 (blk_in hb)
    rw [h.2.2] at this
    exact this
  · next h =>
    cases e : getB bs with
    | none => rfl
    | some l =>
      obtain ⟨h1, h2, h3⟩ := putB_getB hb e
      obtain ⟨g1, g2⟩ := blk_put h2 h3
      rw [h1] at g1 g2
      exact absurd ⟨g2, by rw [g1]; exact h2, by rw [g1]; exact h1⟩ h
end Go.Proofs.YtepancmkopifpaaDoor
