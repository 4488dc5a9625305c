/-
  Rows of samples that a call makes for itself: as cells, as they are read, behind an append; values up to a billion.
-/
import Derived.Test.YtoohokflendibaaWalkFoldParts
import Derived.Laws.AppendOwnNone
import Derived.Deep.AppendLies
namespace Go.Proofs.Ytoohokflendibaa
open Go.RowKit

theorem Try.info32 : (Try.prog.info? 32).map (fun i => (i.zero, i.size, i.bytes)) = some (some (.agg #[.int .i64 0, .int .i64 0]), 2, 16) := by kernel_rfl

def sampV (l : List (Int × Int)) : List Value := l.flatMap fun s => [.int .i64 s.1, .int .i64 s.2]
theorem sampV_append (a b : List (Int × Int)) : sampV (a ++ b) = sampV a ++ sampV b := by simp [sampV]
theorem sampV_length (a : List (Int × Int)) : (sampV a).length = a.length * 2 := by
  induction a with
  | nil => rfl
  | cons s r ih =>
    have e : sampV (s :: r) = .int .i64 s.1 :: .int .i64 s.2 :: sampV r := rfl
    rw [e, List.length_cons, List.length_cons, List.length_cons, ih]
    omega
theorem sampV_get (l : List (Int × Int)) : ∀ j, j < l.length → (sampV l)[j * 2]? = some (.int .i64 (l.getD j (0, 0)).1) ∧ (sampV l)[j * 2 + 1]? = some (.int .i64 (l.getD j (0, 0)).2) := by
  induction l with
  | nil => intro j hj; simp at hj
  | cons s r ih =>
    intro j hj
    have e : sampV (s :: r) = .int .i64 s.1 :: .int .i64 s.2 :: sampV r := rfl
    rw [e]
    match j with
    | 0 => simp
    | j + 1 =>
      have h := ih j (by simpa using hj)
      rw [show (j + 1) * 2 = j * 2 + 1 + 1 by omega]
      simpa using h
theorem sampV_one (l : List (Int × Int)) : ∀ u ∈ sampV l, u.oneCell' = true := by
  intro u hu
  unfold sampV at hu
  obtain ⟨c, _, hc⟩ := List.mem_flatMap.1 hu
  simp at hc
  rcases hc with rfl | rfl <;> rfl
theorem sampV_set (l : List (Int × Int)) (v : Int) : ∀ j, (sampV l).set (j * 2 + 1) (.int .i64 v) = sampV (l.set j ((l.getD j (0, 0)).1, v)) := by
  induction l with
  | nil => intro j; rfl
  | cons s r ih =>
    intro j
    have e : sampV (s :: r) = .int .i64 s.1 :: .int .i64 s.2 :: sampV r := rfl
    rw [e]
    match j with
    | 0 => rfl
    | j + 1 =>
      rw [show (j + 1) * 2 + 1 = j * 2 + 1 + 1 + 1 by omega]
      simp only [List.set_cons_succ]
      rw [ih j]
      rfl

def In2 (l : List (Int × Int)) : Prop := ∀ s ∈ l, In64 s.1 ∧ In64 s.2

/-- What a row of the call's own gives a reader. -/
theorem Samps.own {w : World} {base g n cap : Nat} {l : List (Int × Int)} (h : w.ownsRow base 32 2 (.slice (some ⟨g, 0, none⟩) n cap) n (sampV l)) (hb : In2 l) :
    Samps w (some ⟨g, 0, none⟩) l ∧ l.length = n ∧ n ≤ cap ∧ cap ≤ maxLen ∧ base ≤ g ∧ g < w.heap.size := by
  have hn : l.length = n := by have := h.1; rw [sampV_length] at this; omega
  refine ⟨⟨hb, fun hp => ⟨g, 0, rfl, fun j hj => ?_⟩⟩, hn, ?_⟩
  · have hg := sampV_get l j hj
    rw [Nat.zero_add]
    rw [h.cellAt (j * 2) (by omega), h.cellAt (j * 2 + 1) (by omega)]
    exact hg
  · rcases h.2 with ⟨e, _⟩ | ⟨g', cap', cur, e, hbg, hh, h1, h2, _⟩
    · cases e
    · injection e with e1 e2 e3
      injection e1 with e1
      injection e1 with e1
      subst e1 e3
      refine ⟨h1, h2, hbg, ?_⟩
      rcases Nat.lt_or_ge g w.heap.size with hlt | hge
      · exact hlt
      · rw [Array.getElem?_eq_none hge] at hh; cases hh
theorem Samps.news {w : World} {b off : Nat} {l : List (Int × Int)} (h : Samps w (some ⟨b, off, none⟩) l) : ∀ j u, (sampV l)[j]? = some u → w.cell? ((⟨b, off, none⟩ : Addr).add j) = some u := by
  intro j u hj
  have hj2 : j < l.length * 2 := by
    rcases Nat.lt_or_ge j (l.length * 2) with hlt | hge
    · exact hlt
    · rw [List.getElem?_eq_none (by rw [sampV_length]; exact hge)] at hj; cases hj
  obtain ⟨b', off', e, hc⟩ := h.2 (by omega)
  injection e with e
  injection e with e1 e2
  subst e1 e2
  have hd := hc (j / 2) (by omega)
  have hg := sampV_get l (j / 2) (by omega)
  rw [addr_add]
  rcases Nat.mod_two_eq_zero_or_one j with hm | hm
  · have ej : j / 2 * 2 = j := by omega
    rw [ej] at hd hg
    rw [hd.1, ← hg.1, hj]
  · have ej : j / 2 * 2 + 1 = j := by omega
    rw [Nat.add_assoc, ej] at hd
    rw [ej] at hg
    rw [hd.2, ← hg.2, hj]
theorem own_below {w w' : World} {base n : Nat} {v : Value} {xs : List Value} (h : w.ownsRow base 32 2 v n xs) (hb : Below w.heap.size w w') : w'.ownsRow base 32 2 v n xs :=
  h.kept (row := none) ⟨hb.os, hb.tape, hb.output, hb.size, fun k hk _ => hb.block k hk⟩ (by cases v.ownBlock <;> simp)

/-- A value's remainder by a billion. -/
def bil (v : Int) : Int := v.tmod 1000000000
theorem bil_lt (v : Int) : -1000000000 < bil v ∧ bil v < 1000000000 := by
  have h1 := Int.tmod_lt_of_pos v (b := 1000000000) (by decide)
  have h2 := Int.lt_tmod_of_pos v (b := 1000000000) (by decide)
  exact ⟨h2, h1⟩
def bils (l : List (Int × Int)) : List (Int × Int) := l.map fun s => (s.1, bil s.2)
end Go.Proofs.Ytoohokflendibaa
