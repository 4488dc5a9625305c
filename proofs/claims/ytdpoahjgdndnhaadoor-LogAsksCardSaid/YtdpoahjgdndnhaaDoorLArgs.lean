/-
  What the laws' rows give a walk: the table of names and the library's table of powers as the program lays them.
  What the laws' rows of integers, of bytes, of entries give a walk.
-/
import Derived.Test.YtdpoahjgdndnhaaDoorRows
import Derived.Test.YtdpoahjgdndnhaaDoorEReadM
import Derived.Test.YtdpoahjgdndnhaaDoorEMay
import Derived.ProofKit
import Derived.OpenShut
import Derived.LaidMore
import Derived.SizedLaws
import Derived.Lib.LaidTab
import Derived.Stop.Joined
import Derived.Test.YtdpoahjgdndnhaaDoorERowsW
import Derived.Deep.SlicePairs
namespace Go.Proofs.YtdpoahjgdndnhaaDoor
open Go.ChangeShapes Go.WideShapes Go.ChangeAt Go.RowKit
set_option linter.unusedVariables false

theorem own : ownKnob Tryd.prog.godebug = none := by kernel_rfl
theorem laidOut : laidOutB Tryd.prog = true := by kernel_rfl
def laidList : List (String × DataW Unit) := [("twinkeep/policy.names", Rows.laid_twinkeep_policy_names)]

/-- The heap that the program's own start leaves meets the condition. -/
theorem door_met (os : Os) (args : Array Value) : laidMetH Tryd.prog laidList ((World.doorLaid Tryd.prog 400 os).forCall (fun _ _ => 0) ⟨#[], args, []⟩).memory :=
  laidMetH_of_parts3 (fuel := 8) (laidMet_of_run' 8 (by kernel_rfl) (by kernel_rfl)) (by kernel_rfl) (by kernel_rfl)

theorem strs_of_tab {P : Program} {w : World} {fuel : Nat} {t e : TypeId} {n : Nat} {cs : List Value} {zs : List (List UInt8)} {p : List MemPlace}
    (ht : P.underlying t = some (.array n e)) (he : P.underlying e = some .string) (hce : P.cellsOf e = 1) (hct : P.cellsOf t = n)
    (h : DataW.trod (fun _ => ()) P w 0 (fun _ => true) false fuel t cs = some (.agg (zs.map fun z => .lit (.string z)), p)) : cs = zs.map str := by
  cases fuel with
  | zero => simp [DataW.trod] at h
  | succ fuel =>
    simp only [DataW.trod, ht, hce, hct, Nat.mul_one] at h
    split at h
    · rename_i hl
      obtain ⟨xs, hm, hx⟩ := Option.map_eq_some_iff.1 h
      have hxs : xs.map (·.1) = zs.map fun z => (DataW.lit (.string z) : DataW Unit) := by
        have := congrArg Prod.fst hx
        simpa using this
      have hxl : xs.length = n := by simpa using Lib.mapM_length hm
      have hzl : zs.length = n := by
        have := congrArg List.length hxs
        simp at this
        omega
      apply List.ext_getElem?
      intro i
      by_cases hi : i < n
      · obtain ⟨b, hb, hf⟩ := Lib.mapM_at hm i i (by simp [hi])
        obtain ⟨z, hc, rfl, _⟩ := DataW.trod_string he hf
        have h1 : cs[i]? = some (.string z) := by
          have := congrArg (·[0]?) hc
          simpa [List.getElem?_take, List.getElem?_drop] using this
        have h2 : (xs.map (·.1))[i]? = some (DataW.lit (.string z.data.toList) : DataW Unit) := by simp [hb]
        rw [hxs] at h2
        simp only [List.getElem?_map, Option.map_eq_some_iff, DataW.lit.injEq, Lit.string.injEq] at h2
        obtain ⟨z', hz', e'⟩ := h2
        simp [h1, hz', e', str]
      · rw [List.getElem?_eq_none (by omega), List.getElem?_eq_none (by simp; omega)]
    · cases h

theorem vars_of_laid {W : World} (h : laidMetH Tryd.prog laidList W) : Nam W ∧ 0 < W.heap.size := by
  rw [MakeChecks.laidMetH_plain _ _ _ (by kernel_rfl)] at h
  obtain ⟨ps, h, _⟩ := h
  obtain ⟨g, t, cs, fuel, p, q, hg, ht, hvar, hd, _, _⟩ := h
  have hg0 : Tryd.prog.globalNamed "twinkeep/policy.names" = some 0 := by kernel_rfl
  have ht0 : (Tryd.prog.globals[0]?).map (·.type) = some 144 := by kernel_rfl
  obtain rfl := Option.some.inj (hg0.symm.trans hg)
  obtain rfl := Option.some.inj (ht0.symm.trans ht)
  have hc := strs_of_tab (zs := [nameAt 0, nameAt 1, nameAt 2, nameAt 3]) Tryd.underlying144 Tryd.underlying9 (by kernel_rfl) (by kernel_rfl) hd
  have hN : Nam W := by
    intro i hi
    have := World.var?_cell hg0 hvar i
    rw [this, ← Array.getElem?_toList, hc]
    match i, hi with
    | 0, _ => rfl
    | 1, _ => rfl
    | 2, _ => rfl
    | 3, _ => rfl
  exact ⟨hN, World.block_lt_of_cell? W _ (hN 0 (by decide))⟩
theorem fits_i64 {a : Int} (h : (Lit.int .i64 a).wf = true) : In64 a := by
  unfold In64
  simpa [Lit.wf, IntKind.min, IntKind.max, IntKind.bits, IntKind.signed] using h
section
variable {H : Type} {enc : TypeId × Value → H} {W : World} {base : Nat} {spare : Nat → Bool} {held : Bool}
theorem cell_int {fuel t : Nat} {v : Value} {x : DataW H × List MemPlace} (ht : Tryd.prog.underlying t = some (.int .i64)) (h : DataW.trod enc Tryd.prog W base spare held fuel t [v] = some x) : ∃ n, v = .int .i64 n ∧ In64 n := by
  obtain ⟨n, e, _, hw⟩ := DataW.trod_int ht h
  injection e with e
  exact ⟨n, e, fits_i64 hw⟩
theorem u32_of {n : Int} (hw : (Lit.int .u32 n).wf = true) : 0 ≤ n ∧ n ≤ 4294967295 := by simpa [Lit.wf, IntKind.min, IntKind.max, IntKind.bits, IntKind.signed] using hw
set_option maxRecDepth 100000 in
theorem cell_u32 {fuel t : Nat} {v : Value} {x : DataW H × List MemPlace} (ht : Tryd.prog.underlying t = some (.int .u32)) (h : DataW.trod enc Tryd.prog W base spare held fuel t [v] = some x) : ∃ n, v = .int .u32 n ∧ 0 ≤ n ∧ n ≤ 4294967295 := by
  obtain ⟨n, e, _, hw⟩ := DataW.trod_int ht h
  injection e with e
  exact ⟨n, e, u32_of hw⟩
theorem cell_str {fuel t : Nat} {v : Value} {x : DataW H × List MemPlace} (ht : Tryd.prog.underlying t = some .string) (h : DataW.trod enc Tryd.prog W base spare held fuel t [v] = some x) : ∃ l : List UInt8, v = str l ∧ x.1 = .lit (.string l) := by
  obtain ⟨s, e, hx, hw⟩ := DataW.trod_string ht h
  injection e with e
  exact ⟨s.data.toList, by rw [e]; rfl, by rw [hx]⟩
set_option maxRecDepth 100000 in
theorem open_ent {r : Reach} {b0 : Nat} {v : Value} {d : DataW H} {p : List MemPlace} (hv : Value.okWide Tryd.prog W r b0 25 v) (h : DataW.Trod enc Tryd.prog W base spare held 25 v d p) : ∃ q : Ent, v = q.val ∧ (q.tx.length < 4611686018427387900 → q.ok) ∧ ∃ parts, d = .agg parts ∧ parts[7]? = some (.lit (.string q.tx)) := by
  obtain ⟨cs, rfl, hsz⟩ := okWide_struct Tryd.underlying25 hv
  obtain ⟨l⟩ := cs
  obtain ⟨fuel, hf⟩ := h
  obtain ⟨xs, n, _, hxx, _, hlen, hg⟩ := DataW.trod_struct Tryd.underlying25 hf
  have c26 : Tryd.prog.cellsOf 25 = 8 := by kernel_rfl
  have c2 : Tryd.prog.cellsOf 2 = 1 := by kernel_rfl
  have c3 : Tryd.prog.cellsOf 3 = 1 := by kernel_rfl
  have c24 : Tryd.prog.cellsOf 23 = 1 := by kernel_rfl
  have c9 : Tryd.prog.cellsOf 9 = 1 := by kernel_rfl
  have hl : l.length = 8 := by rw [← c26, ← hsz]; rfl
  match l, hl with
  | [v0, v1, v2, v3, v4, v5, v6, v7], _ =>
    have some_ : ∀ i, i < 8 → ∃ y, xs[i]? = some y := fun i hi => ⟨_, List.getElem?_eq_getElem (by rw [hlen]; exact hi)⟩
    obtain ⟨y0, e0⟩ := some_ 0 (by decide)
    have h0 : DataW.trod enc Tryd.prog W base spare held n 3 [v0] = some y0 := by have := hg 0 _ rfl; rw [e0] at this; simpa [c3, Value.cells] using this
    obtain ⟨y1, e1⟩ := some_ 1 (by decide)
    have h1 : DataW.trod enc Tryd.prog W base spare held n 3 [v1] = some y1 := by have := hg 1 _ rfl; rw [e1] at this; simpa [c3, Value.cells] using this
    obtain ⟨y2, e2⟩ := some_ 2 (by decide)
    have h2 : DataW.trod enc Tryd.prog W base spare held n 3 [v2] = some y2 := by have := hg 2 _ rfl; rw [e2] at this; simpa [c3, Value.cells] using this
    obtain ⟨y3, e3⟩ := some_ 3 (by decide)
    have h3 : DataW.trod enc Tryd.prog W base spare held n 3 [v3] = some y3 := by have := hg 3 _ rfl; rw [e3] at this; simpa [c3, Value.cells] using this
    obtain ⟨y4, e4⟩ := some_ 4 (by decide)
    have h4 : DataW.trod enc Tryd.prog W base spare held n 2 [v4] = some y4 := by have := hg 4 _ rfl; rw [e4] at this; simpa [c2, Value.cells] using this
    obtain ⟨y5, e5⟩ := some_ 5 (by decide)
    have h5 : DataW.trod enc Tryd.prog W base spare held n 2 [v5] = some y5 := by have := hg 5 _ rfl; rw [e5] at this; simpa [c2, Value.cells] using this
    obtain ⟨y6, e6⟩ := some_ 6 (by decide)
    have h6 : DataW.trod enc Tryd.prog W base spare held n 23 [v6] = some y6 := by have := hg 6 _ rfl; rw [e6] at this; simpa [c24, Value.cells] using this
    obtain ⟨y7, e7⟩ := some_ 7 (by decide)
    have h7 : DataW.trod enc Tryd.prog W base spare held n 9 [v7] = some y7 := by have := hg 7 _ rfl; rw [e7] at this; simpa [c9, Value.cells] using this
    obtain ⟨z0, rfl, i0⟩ := cell_int Tryd.underlying3 h0
    obtain ⟨z1, rfl, i1⟩ := cell_int Tryd.underlying3 h1
    obtain ⟨z2, rfl, i2⟩ := cell_int Tryd.underlying3 h2
    obtain ⟨z3, rfl, i3⟩ := cell_int Tryd.underlying3 h3
    obtain ⟨z4, rfl, i4⟩ := cell_int Tryd.underlying2 h4
    obtain ⟨z5, rfl, i5⟩ := cell_int Tryd.underlying2 h5
    obtain ⟨z6, rfl, i6⟩ := cell_u32 Tryd.underlying23 h6
    obtain ⟨z7, rfl, hz7⟩ := cell_str Tryd.underlying9 h7
    exact ⟨⟨z0, z1, z2, z3, z4, z5, z6, z7⟩, rfl, fun i7 => ⟨i0, i1, i2, i3, i4, i5, i6, i7⟩, _, (congrArg Prod.fst hxx), by rw [List.getElem?_map, e7]; simp [hz7]⟩
theorem sized_ent {ts : List TypeId} {ds : List (DataW H)} (hsz : (DataW.weightsEach Tryd.prog ts ds).all (· ≤ reachBytes) = true) {j : Nat} {parts : List (DataW H)} {l : List UInt8} (ht : ts[j]? = some 25) (hd : ds[j]? = some (.agg parts)) (hp : parts[7]? = some (.lit (.string l))) : l.length < 4611686018427387900 := by
  have hm : l.length ∈ DataW.weights Tryd.prog 25 (.agg parts) := by
    simp only [DataW.weights, Tryd.underlying25]
    exact DataW.weights_mem_each (j := 7) (t := 9) rfl hp l.length (by simp [DataW.weights])
  have := List.all_eq_true.1 hsz _ (DataW.weights_mem_each ht hd l.length hm)
  have h2 := reachBytes_lt
  simp only [decide_eq_true_eq] at this
  omega
end
end Go.Proofs.YtdpoahjgdndnhaaDoor
set_option maxRecDepth 100000
namespace Go.Proofs.YtdpoahjgdndnhaaDoor
open Go.ChangeShapes Go.WideShapes Go.ChangeAt Go.RowKit
set_option linter.unusedVariables false

theorem u8_of {a : Int} (h : (Lit.int .u8 a).wf = true) : 0 ≤ a ∧ a ≤ 255 := by
  simpa [Lit.wf, IntKind.min, IntKind.max, IntKind.bits, IntKind.signed] using h
section
variable {H : Type} {enc : TypeId × Value → H} {W : World} {base : Nat} {held : Bool}
theorem open_ints1 {t e : TypeId} (ht : Tryd.prog.underlying t = some (.slice e)) (he : Tryd.prog.underlying e = some (.int .i64)) (hc : Tryd.prog.cellsOf e = 1) {a : Option Addr} {len cap : Nat} {d : DataW H} {p : List MemPlace}
    (h : DataW.Trod enc Tryd.prog W base (fun _ => true) held t (.slice a len cap) d p) : ∃ l : List Int, Ints W a len cap l := by
  obtain ⟨fuel, hf⟩ := h
  rcases open_ints ht he hc hf with ⟨hcs, _⟩ | ⟨x, l, c, zs, hcs, _, hl, hm, hz, _, hcell, hwz⟩
  · simp [Value.cells] at hcs
    obtain ⟨rfl, rfl, rfl⟩ := hcs
    exact ⟨[], rfl, by simp, fun h => absurd h (by simp), Nat.le_refl _, by unfold maxLen; omega, fun _ => rfl⟩
  · simp [Value.cells] at hcs
    obtain ⟨rfl, rfl, rfl⟩ := hcs
    simp at hz
    refine ⟨zs.take len, by rw [List.length_take]; omega, fun n hn => fits_i64 (hwz n (List.mem_of_mem_take hn)), fun h0 => ?_, hl, hm, fun e => by cases e⟩
    obtain ⟨b, off, spot⟩ := x
    have hs : spot = none := by simpa [Addr.add] using World.cell?_spot (hcell 0 (by omega))
    subst hs
    refine ⟨b, off, rfl, fun j hj => ?_⟩
    have := hcell j (by omega)
    rw [addr_add] at this
    rw [this, List.getD_eq_getElem?_getD, List.getD_eq_getElem?_getD, List.getElem?_take_of_lt hj]
theorem open_brow {a : Option Addr} {len cap : Nat} {d : DataW H} {p : List MemPlace} (h : DataW.Trod enc Tryd.prog W base (fun _ => true) held 26 (.slice a len cap) d p) :
    ∃ bs : List Nat, BRow W a len cap bs := by
  obtain ⟨fuel, hf⟩ := h
  rcases open_ints Tryd.underlying26 Tryd.underlying5 (by kernel_rfl) hf with ⟨hcs, _⟩ | ⟨x, l, c, zs, hcs, _, hl, hm, hz, _, hcell, hwz⟩
  · simp [Value.cells] at hcs
    obtain ⟨rfl, rfl, rfl⟩ := hcs
    exact ⟨[], BRow.none W⟩
  · simp [Value.cells] at hcs
    obtain ⟨rfl, rfl, rfl⟩ := hcs
    simp at hz
    obtain ⟨bs, h1, h2, h3, h4⟩ := Bytes.of_row (.inr ⟨x, rfl, hl, hm, hz, fun i hi => hcell i (by omega), hwz⟩)
    exact ⟨bs, ⟨h2, h1, h3, h4, fun e => by cases e⟩⟩
end
end Go.Proofs.YtdpoahjgdndnhaaDoor
