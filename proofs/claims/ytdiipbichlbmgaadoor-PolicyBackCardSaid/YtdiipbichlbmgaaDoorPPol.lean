/-
  What a policy that came in by value gives a walk.
-/
import Derived.Test.YtdiipbichlbmgaaDoorPArgs
namespace Go.Proofs.YtdiipbichlbmgaaDoor
open Go.ChangeShapes Go.WideShapes Go.ChangeAt Go.RowKit
set_option linter.unusedVariables false

theorem fits_i64 {a : Int} (h : (Lit.int .i64 a).wf = true) : In64 a := by
  unfold In64
  simpa [Lit.wf, IntKind.min, IntKind.max, IntKind.bits, IntKind.signed] using h
section
variable {H : Type} {enc : TypeId × Value → H} {W : World} {base : Nat} {spare : Nat → Bool} {held : Bool}
theorem cell_int {fuel t : Nat} {v : Value} {x : DataW H × List MemPlace} (ht : Tryd.prog.underlying t = some (.int .i64)) (h : DataW.trod enc Tryd.prog W base spare held fuel t [v] = some x) : ∃ n, v = .int .i64 n ∧ In64 n := by
  obtain ⟨n, e, _, hw⟩ := DataW.trod_int ht h
  injection e with e
  exact ⟨n, e, fits_i64 hw⟩
theorem open_arr {fuel : Nat} {v0 v1 v2 v3 : Value} {x : DataW H × List MemPlace} (h : DataW.trod enc Tryd.prog W base spare held fuel 23 [v0, v1, v2, v3] = some x) :
    (∃ n, v0 = .int .i64 n ∧ In64 n) ∧ (∃ n, v1 = .int .i64 n ∧ In64 n) ∧ (∃ n, v2 = .int .i64 n ∧ In64 n) ∧ (∃ n, v3 = .int .i64 n ∧ In64 n) := by
  have hce : Tryd.prog.cellsOf 2 = 1 := by kernel_rfl
  have hct : Tryd.prog.cellsOf 23 = 4 := by kernel_rfl
  cases fuel with
  | zero => simp [DataW.trod] at h
  | succ fuel =>
    simp only [DataW.trod, Tryd.underlying23, hce, hct, Nat.mul_one] at h
    split at h
    · obtain ⟨xs, hm, hx⟩ := Option.map_eq_some_iff.1 h
      have g : ∀ i, i < 4 → ∃ b, DataW.trod enc Tryd.prog W base spare held fuel 2 (([v0, v1, v2, v3].drop i).take 1) = some b := fun i hi => by
        obtain ⟨b, _, hf⟩ := Lib.mapM_at hm i i (by simp [hi])
        exact ⟨b, hf⟩
      obtain ⟨y0, h0⟩ := g 0 (by decide)
      obtain ⟨y1, h1⟩ := g 1 (by decide)
      obtain ⟨y2, h2⟩ := g 2 (by decide)
      obtain ⟨y3, h3⟩ := g 3 (by decide)
      exact ⟨cell_int Tryd.underlying2 h0, cell_int Tryd.underlying2 h1, cell_int Tryd.underlying2 h2, cell_int Tryd.underlying2 h3⟩
    · cases h
theorem open_pol {r : Reach} {b0 : Nat} {v : Value} {d : DataW H} {p : List MemPlace} (hv : Value.okWide Tryd.prog W r b0 25 v) (h : DataW.Trod enc Tryd.prog W base spare held 25 v d p) : ∃ q : Pol, v = q.val ∧ q.ok := by
  obtain ⟨cs, rfl, hsz⟩ := okWide_struct Tryd.underlying25 hv
  obtain ⟨l⟩ := cs
  obtain ⟨fuel, hf⟩ := h
  obtain ⟨xs, n, _, _, _, hlen, hg⟩ := DataW.trod_struct Tryd.underlying25 hf
  have c25 : Tryd.prog.cellsOf 25 = 6 := by kernel_rfl
  have c23 : Tryd.prog.cellsOf 23 = 4 := by kernel_rfl
  have c2 : Tryd.prog.cellsOf 2 = 1 := by kernel_rfl
  have c3 : Tryd.prog.cellsOf 3 = 1 := by kernel_rfl
  have hl : l.length = 6 := by rw [← c25, ← hsz]; rfl
  match l, hl with
  | [v0, v1, v2, v3, v4, v5], _ =>
    have some_ : ∀ i, i < 3 → ∃ y, xs[i]? = some y := fun i hi => ⟨_, List.getElem?_eq_getElem (by rw [hlen]; exact hi)⟩
    obtain ⟨y0, e0⟩ := some_ 0 (by decide)
    obtain ⟨y1, e1⟩ := some_ 1 (by decide)
    obtain ⟨y2, e2⟩ := some_ 2 (by decide)
    have h0 : DataW.trod enc Tryd.prog W base spare held n 23 [v0, v1, v2, v3] = some y0 := by have := hg 0 _ rfl; rw [e0] at this; simpa [c23, Value.cells] using this
    have h1 : DataW.trod enc Tryd.prog W base spare held n 3 [v4] = some y1 := by have := hg 1 _ rfl; rw [e1] at this; simpa [c3, Value.cells] using this
    have h2 : DataW.trod enc Tryd.prog W base spare held n 2 [v5] = some y2 := by have := hg 2 _ rfl; rw [e2] at this; simpa [c2, Value.cells] using this
    obtain ⟨⟨z0, rfl, i0⟩, ⟨z1, rfl, i1⟩, ⟨z2, rfl, i2⟩, ⟨z3, rfl, i3⟩⟩ := open_arr h0
    obtain ⟨z4, rfl, i4⟩ := cell_int Tryd.underlying3 h1
    obtain ⟨z5, rfl, i5⟩ := cell_int Tryd.underlying2 h2
    exact ⟨⟨z0, z1, z2, z3, z4, z5⟩, rfl, i0, i1, i2, i3, i4, i5⟩
end
end Go.Proofs.YtdiipbichlbmgaaDoor
