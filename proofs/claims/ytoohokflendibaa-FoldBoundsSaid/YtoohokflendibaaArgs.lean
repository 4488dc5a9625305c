/-
  What an argument is: a row of samples, an aggregate.
-/
import Derived.Test.YtoohokflendibaaWalkFoldAdds
import Derived.Deep.SlicePairs
import Derived.Deep.Fields
import Derived.OpenShut
namespace Go.Proofs.Ytoohokflendibaa
open Go.RowKit Go.ChangeShapes Go.WideShapes

theorem addr_add (b off j : Nat) : (⟨b, off, none⟩ : Addr).add j = ⟨b, off + j, none⟩ := by
  unfold Addr.add
  split
  · next e => rw [e]; rfl
  · rfl
theorem cells2 : Try.prog.cellsOf 2 = 1 := by kernel_rfl
theorem cells26 : Try.prog.cellsOf 26 = 7 := by kernel_rfl

section
variable {H : Type} {enc : TypeId × Value → H} {W : World} {base : Nat} {spare : Nat → Bool} {held : Bool}

/-- One cell that is read as a number. -/
theorem cell_int {fuel : Nat} {v : Value} {x : DataW H × List MemPlace} (h : DataW.trod enc Try.prog W base spare held fuel 2 [v] = some x) : ∃ n, v = .int .i64 n ∧ In64 n := by
  obtain ⟨n, e, _, hw⟩ := DataW.trod_int Try.underlying2 h
  injection e with e
  exact ⟨n, e, fits_i64 hw⟩

/-- An aggregate, by value. -/
theorem open_ag {r : Reach} {b0 : Nat} {v : Value} {d : DataW H} {p : List MemPlace} (hv : Value.okWide Try.prog W r b0 26 v) (h : DataW.Trod enc Try.prog W base spare held 26 v d p) : ∃ a : Ag, v = a.val ∧ a.ok := by
  obtain ⟨cs, rfl, hsz⟩ := okWide_struct Try.underlying26 hv
  obtain ⟨l⟩ := cs
  obtain ⟨fuel, hf⟩ := h
  obtain ⟨xs, n, _, _, _, hlen, hg⟩ := DataW.trod_struct Try.underlying26 hf
  have key : ∀ (i : Nat) (c : Value), i < 7 → l[i]? = some c → (∃ y, DataW.trod enc Try.prog W base spare held n 2 ((l.drop i).take 1) = some y) → ∃ z, c = .int .i64 z ∧ In64 z := by
    intro i c _ hc ⟨y, hy⟩
    have e : (l.drop i).take 1 = [c] := by
      have hi := (List.getElem?_eq_some_iff.1 hc)
      obtain ⟨hi, rfl⟩ := hi
      rw [List.drop_eq_getElem_cons hi]
      rfl
    rw [e] at hy
    exact cell_int hy
  have some_ : ∀ i, i < 7 → ∃ y, xs[i]? = some y := fun i hi => ⟨_, List.getElem?_eq_getElem (by rw [hlen]; exact hi)⟩
  have g : ∀ (i : Nat) (f : Field), (#[⟨"From", 2, 0, false, "", "", 0⟩, ⟨"Count", 2, 1, false, "", "", 8⟩, ⟨"Sum", 2, 2, false, "", "", 16⟩, ⟨"Min", 2, 3, false, "", "", 24⟩, ⟨"Max", 2, 4, false, "", "", 32⟩, ⟨"First", 2, 5, false, "", "", 40⟩, ⟨"Last", 2, 6, false, "", "", 48⟩] : Array Field)[i]? = some f → f.type = 2 → f.offset = i → i < 7 →
      ∃ y, DataW.trod enc Try.prog W base spare held n 2 ((l.drop i).take 1) = some y := by
    intro i f hf ht ho hi
    obtain ⟨y, hy⟩ := some_ i hi
    refine ⟨y, ?_⟩
    have := hg i f hf
    rw [ht, ho, cells2, hy] at this
    exact this
  have hl : l.length = 7 := by rw [← cells26, ← hsz]; rfl
  have h0 := g 0 _ rfl rfl rfl (by decide)
  have h1 := g 1 _ rfl rfl rfl (by decide)
  have h2 := g 2 _ rfl rfl rfl (by decide)
  have h3 := g 3 _ rfl rfl rfl (by decide)
  have h4 := g 4 _ rfl rfl rfl (by decide)
  have h5 := g 5 _ rfl rfl rfl (by decide)
  have h6 := g 6 _ rfl rfl rfl (by decide)
  clear g hg some_ hf hlen hsz hv
  match l, hl with
  | [c0, c1, c2, c3, c4, c5, c6], _ =>
    obtain ⟨z0, rfl, o0⟩ := key 0 c0 (by decide) rfl h0
    obtain ⟨z1, rfl, o1⟩ := key 1 c1 (by decide) rfl h1
    obtain ⟨z2, rfl, o2⟩ := key 2 c2 (by decide) rfl h2
    obtain ⟨z3, rfl, o3⟩ := key 3 c3 (by decide) rfl h3
    obtain ⟨z4, rfl, o4⟩ := key 4 c4 (by decide) rfl h4
    obtain ⟨z5, rfl, o5⟩ := key 5 c5 (by decide) rfl h5
    obtain ⟨z6, rfl, o6⟩ := key 6 c6 (by decide) rfl h6
    exact ⟨⟨z0, z1, z2, z3, z4, z5, z6⟩, rfl, o0, o1, o2, o3, o4, o5, o6⟩

def numOf : Value → Int
  | .int _ n => n
  | _ => 0

/-- A row of samples. -/
theorem open_samples {a : Option Addr} {len cap : Nat} {d : DataW H} {p : List MemPlace} (h : DataW.Trod enc Try.prog W base (fun _ => true) held 22 (.slice a len cap) d p) :
    ∃ l : List (Int × Int), l.length = len ∧ Samps W a l ∧ len ≤ cap ∧ cap ≤ maxLen ∧ (a = none → cap = 0) := by
  obtain ⟨fuel, hf⟩ := h
  rcases Go.Deep.open_slice_pairs Try.underlying22 Try.underlying32 (by kernel_rfl) rfl rfl (by kernel_rfl) (by kernel_rfl) hf with ⟨hcs, _⟩ | ⟨x, l, c, m, n, V0, V1, D0, D1, P0, P1, hcs, _, hl, hm, hmm, _, hc⟩
  · simp [Value.cells] at hcs
    obtain ⟨rfl, rfl, rfl⟩ := hcs
    exact ⟨[], rfl, ⟨by simp, fun hp => absurd hp (by decide)⟩, by decide, by decide, fun _ => rfl⟩
  · simp [Value.cells] at hcs
    obtain ⟨rfl, rfl, rfl⟩ := hcs
    simp only [if_true] at hmm
    subst hmm
    have hv : ∀ i, i < len → ∃ z0 z1, V0 i = .int .i64 z0 ∧ V1 i = .int .i64 z1 ∧ In64 z0 ∧ In64 z1 := fun i hi => by
      obtain ⟨_, _, h0, h1⟩ := hc i (by omega)
      obtain ⟨z0, e0, i0⟩ := cell_int h0
      obtain ⟨z1, e1, i1⟩ := cell_int h1
      exact ⟨z0, z1, e0, e1, i0, i1⟩
    refine ⟨(List.range len).map fun i => (numOf (V0 i), numOf (V1 i)), by simp, ⟨?_, fun hp => ?_⟩, hl, hm, fun e => by cases e⟩
    · intro s hs
      obtain ⟨i, hi, rfl⟩ := List.mem_map.1 hs
      obtain ⟨z0, z1, e0, e1, i0, i1⟩ := hv i (List.mem_range.1 hi)
      rw [e0, e1]
      exact ⟨i0, i1⟩
    · obtain ⟨b, off, spot⟩ := x
      have hlen : 0 < len := by simpa using hp
      have hs : spot = none := by simpa [Addr.add] using World.cell?_spot (hc 0 (by omega)).1
      subst hs
      refine ⟨b, off, rfl, fun j hj => ?_⟩
      have hj' : j < len := by simpa using hj
      obtain ⟨h0, h1, _, _⟩ := hc j (by omega)
      obtain ⟨z0, z1, e0, e1, i0, i1⟩ := hv j hj'
      have e : ((List.range len).map fun i => (numOf (V0 i), numOf (V1 i))).getD j (0, 0) = (z0, z1) := by
        simp [hj', e0, e1, numOf]
      rw [e]
      rw [addr_add] at h0 h1
      exact ⟨by rw [h0, e0], by rw [Nat.add_assoc, h1, e1]⟩
end
end Go.Proofs.Ytoohokflendibaa
