/-
  What a law's row of entries gives a walk.
-/
import Derived.Test.YtdpoahjgdndnhaaDoorLArgs
import Derived.Test.YtdpoahjgdndnhaaDoorERowS
set_option maxRecDepth 100000
namespace Go.Proofs.YtdpoahjgdndnhaaDoor
open Go.ChangeShapes Go.WideShapes Go.ChangeAt Go.RowKit
set_option linter.unusedVariables false

section
variable {H : Type} {enc : TypeId × Value → H} {W : World} {base : Nat} {held : Bool}
theorem weights_mem_all {P : Program} {e : TypeId} : ∀ {elems : List (DataW H)} {x : DataW H}, x ∈ elems → ∀ {y : Nat}, y ∈ x.weights P e → y ∈ DataW.weightsAll P e elems
  | d :: r, x, hx, y, hy => by
    simp only [DataW.weightsAll]
    rcases List.mem_cons.1 hx with rfl | hx
    · exact List.mem_append_left _ hy
    · exact List.mem_append_right _ (weights_mem_all hx hy)
/-- The texts of a row's entries are such as a machine holds. -/
def SizedE (d : DataW H) : Prop := ∀ elems spare, d = .slice elems spare → ∀ x ∈ elems, ∀ parts (l : List UInt8), x = .agg parts → parts[7]? = some (.lit (.string l)) → l.length < 4611686018427387900
theorem sized_ents {ts : List TypeId} {ds : List (DataW H)} (hsz : (DataW.weightsEach Tryd.prog ts ds).all (· ≤ reachBytes) = true) {j : Nat} {d : DataW H} (ht : ts[j]? = some 22) (hd : ds[j]? = some d) : SizedE d := by
  rintro elems spare rfl x hx parts l rfl hp
  have hm : l.length ∈ DataW.weights Tryd.prog 22 (.slice elems spare) := by
    simp only [DataW.weights, Tryd.underlying22]
    refine List.mem_cons_of_mem _ (List.mem_append_left _ (weights_mem_all hx ?_))
    simp only [DataW.weights, Tryd.underlying25]
    exact DataW.weights_mem_each (j := 7) (t := 9) rfl hp l.length (by simp [DataW.weights])
  have := List.all_eq_true.1 hsz _ (DataW.weights_mem_each ht hd l.length hm)
  have h2 := reachBytes_lt
  simp only [decide_eq_true_eq] at this
  omega
instance : Inhabited Ent := ⟨Ent.zero⟩
theorem open_ents {a : Option Addr} {len cap : Nat} {d : DataW H} {p : List MemPlace} (h : DataW.Trod enc Tryd.prog W base (fun _ => true) held 22 (.slice a len cap) d p) (hs : SizedE d) : ∃ l : List Ent, EntRow W a len cap l := by
  obtain ⟨fuel, hf⟩ := h
  have c25 : Tryd.prog.cellsOf 25 = 8 := by kernel_rfl
  have c2 : Tryd.prog.cellsOf 2 = 1 := by kernel_rfl
  have c3 : Tryd.prog.cellsOf 3 = 1 := by kernel_rfl
  have c24 : Tryd.prog.cellsOf 23 = 1 := by kernel_rfl
  have c9 : Tryd.prog.cellsOf 9 = 1 := by kernel_rfl
  rcases Go.Deep.open_slice Tryd.underlying22 hf with ⟨hcs, _⟩ | ⟨x, l, c, m, n, D, Pl, hcs, _, hl, hm, hmm, hdx, hx⟩
  · simp [Value.cells] at hcs
    obtain ⟨rfl, rfl, rfl⟩ := hcs
    exact ⟨[], ⟨rfl, Nat.le_refl _, by unfold maxLen; omega, fun _ => rfl, fun e he => by simp at he, fun h => absurd h (by simp)⟩⟩
  · simp [Value.cells] at hcs
    obtain ⟨rfl, rfl, rfl⟩ := hcs
    simp only [if_true] at hmm
    subst hmm
    obtain ⟨b, off, spot⟩ := x
    by_cases hp : 0 < len
    case neg =>
      obtain rfl : len = 0 := by omega
      exact ⟨[], ⟨rfl, hl, hm, fun e => (by cases e), fun e he => by simp at he, fun h => absurd h (by simp)⟩⟩
    obtain rfl : spot = none := by
      obtain ⟨cs', h1, h2⟩ := hx 0 (by omega)
      rw [c25] at h1
      obtain ⟨_, hlen, hcell⟩ := World.cells?_some h1
      match cs', hlen with
      | v0 :: _, _ =>
        have e0 := hcell 0 (by omega)
        rw [List.getElem?_cons_zero] at e0
        simpa [Addr.add] using World.cell?_spot e0
    have hdd := congrArg Prod.fst hdx
    simp only at hdd
    have each : ∀ i, i < len → ∃ e : Ent, e.ok ∧ (W.cell? ⟨b, off + i * 8, none⟩ = some (.int .i64 e.kd) ∧ W.cell? ⟨b, off + i * 8 + 1, none⟩ = some (.int .i64 e.vw) ∧
        W.cell? ⟨b, off + i * 8 + 2, none⟩ = some (.int .i64 e.id) ∧ W.cell? ⟨b, off + i * 8 + 3, none⟩ = some (.int .i64 e.tr) ∧
        W.cell? ⟨b, off + i * 8 + 4, none⟩ = some (.int .i64 e.fr) ∧ W.cell? ⟨b, off + i * 8 + 5, none⟩ = some (.int .i64 e.tl) ∧
        W.cell? ⟨b, off + i * 8 + 6, none⟩ = some (.int .u32 e.sm) ∧ W.cell? ⟨b, off + i * 8 + 7, none⟩ = some (str e.tx)) := fun i hi => by
      obtain ⟨cs', h1, h2⟩ := hx i (by omega)
      rw [c25] at h1
      obtain ⟨_, hlen, hcell⟩ := World.cells?_some h1
      obtain ⟨xs, k, hk, hxy, _, hxl, hg⟩ := DataW.trod_struct Tryd.underlying25 h2
      have hD := congrArg Prod.fst hxy
      simp only at hD
      match xs, hxl, cs', hlen with
      | [y0, y1, y2, y3, y4, y5, y6, y7], _, [v0, v1, v2, v3, v4, v5, v6, v7], _ =>
        obtain ⟨z0, rfl, i0⟩ := cell_int Tryd.underlying3 (show DataW.trod enc Tryd.prog W base _ held k 3 [v0] = some y0 by have := hg 0 _ rfl; simpa [c3] using this)
        obtain ⟨z1, rfl, i1⟩ := cell_int Tryd.underlying3 (show DataW.trod enc Tryd.prog W base _ held k 3 [v1] = some y1 by have := hg 1 _ rfl; simpa [c3] using this)
        obtain ⟨z2, rfl, i2⟩ := cell_int Tryd.underlying3 (show DataW.trod enc Tryd.prog W base _ held k 3 [v2] = some y2 by have := hg 2 _ rfl; simpa [c3] using this)
        obtain ⟨z3, rfl, i3⟩ := cell_int Tryd.underlying3 (show DataW.trod enc Tryd.prog W base _ held k 3 [v3] = some y3 by have := hg 3 _ rfl; simpa [c3] using this)
        obtain ⟨z4, rfl, i4⟩ := cell_int Tryd.underlying2 (show DataW.trod enc Tryd.prog W base _ held k 2 [v4] = some y4 by have := hg 4 _ rfl; simpa [c2] using this)
        obtain ⟨z5, rfl, i5⟩ := cell_int Tryd.underlying2 (show DataW.trod enc Tryd.prog W base _ held k 2 [v5] = some y5 by have := hg 5 _ rfl; simpa [c2] using this)
        obtain ⟨z6, rfl, i6⟩ := cell_u32 Tryd.underlying23 (show DataW.trod enc Tryd.prog W base _ held k 23 [v6] = some y6 by have := hg 6 _ rfl; simpa [c24] using this)
        obtain ⟨z7, rfl, hz7⟩ := cell_str Tryd.underlying9 (show DataW.trod enc Tryd.prog W base _ held k 9 [v7] = some y7 by have := hg 7 _ rfl; simpa [c9] using this)
        have hlt : z7.length < 4611686018427387900 := hs _ _ hdd (D i) (List.mem_map.2 ⟨i, List.mem_range.2 hi, rfl⟩) _ z7 hD (by simp [hz7])
        have c : ∀ j, j < 8 → W.cell? ⟨b, off + i * 8 + j, none⟩ = ([Value.int .i64 z0, .int .i64 z1, .int .i64 z2, .int .i64 z3, .int .i64 z4, .int .i64 z5, .int .u32 z6, str z7] : List Value)[j]? := fun j hj => by
          have := hcell j hj
          rw [addr_add, addr_add] at this
          exact this
        exact ⟨⟨z0, z1, z2, z3, z4, z5, z6, z7⟩, ⟨i0, i1, i2, i3, i4, i5, i6, hlt⟩, c 0 (by decide), c 1 (by decide), c 2 (by decide), c 3 (by decide), c 4 (by decide), c 5 (by decide), c 6 (by decide), c 7 (by decide)⟩
    obtain ⟨f, hf⟩ := Go.Deep.choose_lt each
    refine ⟨(List.range len).map f, ⟨by simp, hl, hm, fun e => (by cases e), fun e he => ?_, fun _ => ?_⟩⟩
    · obtain ⟨i, hi, rfl⟩ := List.mem_map.1 he
      exact (hf i (List.mem_range.1 hi)).1
    · refine ⟨b, off, rfl, World.block_lt_of_cell? W _ (hf 0 hp).2.1, fun j hj => ?_⟩
      have e : ((List.range len).map f).getD j Ent.zero = f j := by simp [hj]
      rw [e]
      exact (hf j hj).2
end
end Go.Proofs.YtdpoahjgdndnhaaDoor
