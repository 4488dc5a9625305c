/-
  What walks over samples and aggregates share: worlds that only grew, a variable that is made, an argument's range and form, rows that a call makes for itself, values up to a billion.
-/
import Derived.Test.YtinplchaimejbaaAllMore
import Derived.Deep.SlicePairs
import Derived.Deep.Fields
import Derived.OpenShut
import Derived.Laws.AppendOwnNone
import Derived.Deep.AppendLies
namespace Go.Proofs.Ytinplchaimejbaa
open Go.RowKit Go.ChangeShapes Go.WideShapes

theorem fits_i64 {a : Int} (h : (Lit.int .i64 a).wf = true) : In64 a := by
  unfold In64
  simpa [Lit.wf, IntKind.min, IntKind.max, IntKind.bits, IntKind.signed] using h
theorem past {w w2 w3 : World} (h : Below w.heap.size w w2) (h3 : Below w2.heap.size w2 w3) : Below w.heap.size w w3 := h.trans (h3.mono h.size)
theorem past_alloc {w w2 : World} (h : Below w.heap.size w w2) (o : Obj) : Below w.heap.size w (w2.alloc o) := h.alloc h.size o

theorem Holds.past {w : World} {g : Nat} {a : Ag} (h : Holds w g a) (o : Obj) : Holds (w.alloc o) g a := h.below ((Below.refl _ _).alloc (Nat.le_refl _) _)
theorem Holds.lt {w : World} {g : Nat} {a : Ag} (h : Holds w g a) : g < w.heap.size := World.block_lt_of_cell? w _ h.1

theorem wrap_nat (a : Int) : ∃ U : Nat, IntKind.u64.wrap a = (U : Int) := by
  refine ⟨(IntKind.u64.wrap a).toNat, ?_⟩
  rw [IntKind.wrap_u64]
  omega

theorem addr_add (b off j : Nat) : (⟨b, off, none⟩ : Addr).add j = ⟨b, off + j, none⟩ := by
  unfold Addr.add
  split
  · next e => rw [e]; rfl
  · rfl
theorem cells2 : Try.prog.cellsOf 2 = 1 := by kernel_rfl
section
variable {H : Type} {enc : TypeId × Value → H} {W : World} {base : Nat} {spare : Nat → Bool} {held : Bool}

/-- One cell that is read as a number. -/
theorem cell_int {fuel : Nat} {v : Value} {x : DataW H × List MemPlace} (h : DataW.trod enc Try.prog W base spare held fuel 2 [v] = some x) : ∃ n, v = .int .i64 n ∧ In64 n := by
  obtain ⟨n, e, _, hw⟩ := DataW.trod_int Try.underlying2 h
  injection e with e
  exact ⟨n, e, fits_i64 hw⟩

def numOf : Value → Int
  | .int _ n => n
  | _ => 0

/-- A row of samples. -/
theorem open_samples {a : Option Addr} {len cap : Nat} {d : DataW H} {p : List MemPlace} (h : DataW.Trod enc Try.prog W base (fun _ => true) held 23 (.slice a len cap) d p) :
    ∃ l : List (Int × Int), l.length = len ∧ Samps W a l ∧ len ≤ cap ∧ cap ≤ maxLen ∧ (a = none → cap = 0) := by
  obtain ⟨fuel, hf⟩ := h
  rcases Go.Deep.open_slice_pairs Try.underlying23 Try.underlying30 (by kernel_rfl) rfl rfl (by kernel_rfl) (by kernel_rfl) hf with ⟨hcs, _⟩ | ⟨x, l, c, m, n, V0, V1, D0, D1, P0, P1, hcs, _, hl, hm, hmm, _, hc⟩
  · simp [Value.cells] at hcs
    obtain ⟨rfl, rfl, rfl⟩ := hcs
    exact ⟨[], rfl, ⟨by simp, fun hp => absurd hp (by decide)⟩, by decide, by decide, fun _ => rfl⟩
  · simp [Value.cells] at hcs
    obtain ⟨rfl, rfl, rfl⟩ := hcs
    simp only [if_true] at hmm
    subst hmm
    have hv : ∀ i, i < len → ∃ z0 z1, V0 i = .int .i64 z0 ∧ V1 i = .int .i64 z1 ∧ In64 z0 ∧ In64 z1 := fun i hi => by
      obtain ⟨_, _, h0, h1⟩ := hc i (by omega)
      obtain ⟨z0, e0, i0⟩ := cell_int h0
      obtain ⟨z1, e1, i1⟩ := cell_int h1
      exact ⟨z0, z1, e0, e1, i0, i1⟩
    refine ⟨(List.range len).map fun i => (numOf (V0 i), numOf (V1 i)), by simp, ⟨?_, fun hp => ?_⟩, hl, hm, fun e => by cases e⟩
    · intro s hs
      obtain ⟨i, hi, rfl⟩ := List.mem_map.1 hs
      obtain ⟨z0, z1, e0, e1, i0, i1⟩ := hv i (List.mem_range.1 hi)
      rw [e0, e1]
      exact ⟨i0, i1⟩
    · obtain ⟨b, off, spot⟩ := x
      have hlen : 0 < len := by simpa using hp
      have hs : spot = none := by simpa [Addr.add] using World.cell?_spot (hc 0 (by omega)).1
      subst hs
      refine ⟨b, off, rfl, fun j hj => ?_⟩
      have hj' : j < len := by simpa using hj
      obtain ⟨h0, h1, _, _⟩ := hc j (by omega)
      obtain ⟨z0, z1, e0, e1, i0, i1⟩ := hv j hj'
      have e : ((List.range len).map fun i => (numOf (V0 i), numOf (V1 i))).getD j (0, 0) = (z0, z1) := by
        simp [hj', e0, e1, numOf]
      rw [e]
      rw [addr_add] at h0 h1
      exact ⟨by rw [h0, e0], by rw [Nat.add_assoc, h1, e1]⟩
end
theorem Try.info30 : (Try.prog.info? 30).map (fun i => (i.zero, i.size, i.bytes)) = some (some (.agg #[.int .i64 0, .int .i64 0]), 2, 16) := by kernel_rfl

def sampV (l : List (Int × Int)) : List Value := l.flatMap fun s => [.int .i64 s.1, .int .i64 s.2]
theorem sampV_append (a b : List (Int × Int)) : sampV (a ++ b) = sampV a ++ sampV b := by simp [sampV]
theorem sampV_length (a : List (Int × Int)) : (sampV a).length = a.length * 2 := by
  induction a with
  | nil => rfl
  | cons s r ih =>
    have e : sampV (s :: r) = .int .i64 s.1 :: .int .i64 s.2 :: sampV r := rfl
    rw [e, List.length_cons, List.length_cons, List.length_cons, ih]
    omega
theorem sampV_get (l : List (Int × Int)) : ∀ j, j < l.length → (sampV l)[j * 2]? = some (.int .i64 (l.getD j (0, 0)).1) ∧ (sampV l)[j * 2 + 1]? = some (.int .i64 (l.getD j (0, 0)).2) := by
  induction l with
  | nil => intro j hj; simp at hj
  | cons s r ih =>
    intro j hj
    have e : sampV (s :: r) = .int .i64 s.1 :: .int .i64 s.2 :: sampV r := rfl
    rw [e]
    match j with
    | 0 => simp
    | j + 1 =>
      have h := ih j (by simpa using hj)
      rw [show (j + 1) * 2 = j * 2 + 1 + 1 by omega]
      simpa using h
theorem sampV_one (l : List (Int × Int)) : ∀ u ∈ sampV l, u.oneCell' = true := by
  intro u hu
  unfold sampV at hu
  obtain ⟨c, _, hc⟩ := List.mem_flatMap.1 hu
  simp at hc
  rcases hc with rfl | rfl <;> rfl
theorem sampV_set (l : List (Int × Int)) (v : Int) : ∀ j, (sampV l).set (j * 2 + 1) (.int .i64 v) = sampV (l.set j ((l.getD j (0, 0)).1, v)) := by
  induction l with
  | nil => intro j; rfl
  | cons s r ih =>
    intro j
    have e : sampV (s :: r) = .int .i64 s.1 :: .int .i64 s.2 :: sampV r := rfl
    rw [e]
    match j with
    | 0 => rfl
    | j + 1 =>
      rw [show (j + 1) * 2 + 1 = j * 2 + 1 + 1 + 1 by omega]
      simp only [List.set_cons_succ]
      rw [ih j]
      rfl

def In2 (l : List (Int × Int)) : Prop := ∀ s ∈ l, In64 s.1 ∧ In64 s.2

/-- What a row of the call's own gives a reader. -/
theorem Samps.own {w : World} {base g n cap : Nat} {l : List (Int × Int)} (h : w.ownsRow base 30 2 (.slice (some ⟨g, 0, none⟩) n cap) n (sampV l)) (hb : In2 l) :
    Samps w (some ⟨g, 0, none⟩) l ∧ l.length = n ∧ n ≤ cap ∧ cap ≤ maxLen ∧ base ≤ g ∧ g < w.heap.size := by
  have hn : l.length = n := by have := h.1; rw [sampV_length] at this; omega
  refine ⟨⟨hb, fun hp => ⟨g, 0, rfl, fun j hj => ?_⟩⟩, hn, ?_⟩
  · have hg := sampV_get l j hj
    rw [Nat.zero_add]
    rw [h.cellAt (j * 2) (by omega), h.cellAt (j * 2 + 1) (by omega)]
    exact hg
  · rcases h.2 with ⟨e, _⟩ | ⟨g', cap', cur, e, hbg, hh, h1, h2, _⟩
    · cases e
    · injection e with e1 e2 e3
      injection e1 with e1
      injection e1 with e1
      subst e1 e3
      refine ⟨h1, h2, hbg, ?_⟩
      rcases Nat.lt_or_ge g w.heap.size with hlt | hge
      · exact hlt
      · rw [Array.getElem?_eq_none hge] at hh; cases hh
theorem Samps.news {w : World} {b off : Nat} {l : List (Int × Int)} (h : Samps w (some ⟨b, off, none⟩) l) : ∀ j u, (sampV l)[j]? = some u → w.cell? ((⟨b, off, none⟩ : Addr).add j) = some u := by
  intro j u hj
  have hj2 : j < l.length * 2 := by
    rcases Nat.lt_or_ge j (l.length * 2) with hlt | hge
    · exact hlt
    · rw [List.getElem?_eq_none (by rw [sampV_length]; exact hge)] at hj; cases hj
  obtain ⟨b', off', e, hc⟩ := h.2 (by omega)
  injection e with e
  injection e with e1 e2
  subst e1 e2
  have hd := hc (j / 2) (by omega)
  have hg := sampV_get l (j / 2) (by omega)
  rw [addr_add]
  rcases Nat.mod_two_eq_zero_or_one j with hm | hm
  · have ej : j / 2 * 2 = j := by omega
    rw [ej] at hd hg
    rw [hd.1, ← hg.1, hj]
  · have ej : j / 2 * 2 + 1 = j := by omega
    rw [Nat.add_assoc, ej] at hd
    rw [ej] at hg
    rw [hd.2, ← hg.2, hj]
theorem own_below {w w' : World} {base n : Nat} {v : Value} {xs : List Value} (h : w.ownsRow base 30 2 v n xs) (hb : Below w.heap.size w w') : w'.ownsRow base 30 2 v n xs :=
  h.kept (row := none) ⟨hb.os, hb.tape, hb.output, hb.size, fun k hk _ => hb.block k hk⟩ (by cases v.ownBlock <;> simp)

/-- A value's remainder by a billion. -/
def bil (v : Int) : Int := v.tmod 1000000000
theorem bil_lt (v : Int) : -1000000000 < bil v ∧ bil v < 1000000000 := by
  have h1 := Int.tmod_lt_of_pos v (b := 1000000000) (by decide)
  have h2 := Int.lt_tmod_of_pos v (b := 1000000000) (by decide)
  exact ⟨h2, h1⟩
def bils (l : List (Int × Int)) : List (Int × Int) := l.map fun s => (s.1, bil s.2)
end Go.Proofs.Ytinplchaimejbaa
