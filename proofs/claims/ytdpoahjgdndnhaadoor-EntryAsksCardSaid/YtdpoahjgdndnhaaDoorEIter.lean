/-
  maps.Values over a map of segments by their Ids: the values come, each once, in some order.
-/
import Derived.Test.YtdpoahjgdndnhaaDoorEMay
import Derived.Maps.OwnSet
import Derived.Maps.RangeWalk
import Derived.Lib.SlKeysI
import Derived.RangeFuncSeq
import Derived.RangeFuncGives
import Derived.Sort.MapsRangeIn
import Derived.Sort.KeysCollected
import Derived.OwnWalkIn
import Derived.TacticsInMore
import Derived.RegionIn
import Derived.LoopNIn
import Derived.LoopIn
import Derived.Shelf.AbstractIn
set_option maxRecDepth 100000
namespace Go.Proofs.YtdpoahjgdndnhaaDoor
open Go.RowKit Go.Maps Go.Sort Go.Shelf
set_option linter.unusedVariables false

def Inf.val (x : Inf) : Value := .agg #[.int .i64 x.id, .int .i64 x.tr, .int .i64 x.fr, .int .i64 x.tl, .int .u32 x.sm]
def Inf.dat (x : Inf) : DataW Unit := .agg [.lit (.int .i64 x.id), .lit (.int .i64 x.tr), .lit (.int .i64 x.fr), .lit (.int .i64 x.tl), .lit (.int .u32 x.sm)]
def Inf.zero : Inf := ⟨0, 0, 0, 0, 0⟩
instance instInhabitedInf : Inhabited Inf := ⟨Inf.zero⟩
/-- How a segment in a map reads. -/
def infR : Value → Option (DataW Unit × List MemPlace)
  | .agg cs => match cs.toList with
    | [.int .i64 a, .int .i64 b, .int .i64 c, .int .i64 d, .int .u32 e] => some (Inf.dat ⟨a, b, c, d, e⟩, [])
    | _ => none
  | _ => none
theorem infR_mk (x : Inf) : infR x.val = some (x.dat, []) := rfl
theorem infR_inv {v : Value} {z : DataW Unit × List MemPlace} (h : infR v = some z) : ∃ x : Inf, v = x.val ∧ z = (x.dat, []) := by
  unfold infR at h
  split at h
  · next cs =>
    split at h
    · next a b c d e he =>
      refine ⟨⟨a, b, c, d, e⟩, ?_, ?_⟩
      · unfold Inf.val
        congr 1
        exact Array.toList_inj.1 he
      · exact (Option.some.inj h).symm
    · cases h
  · cases h
theorem Inf.dat_inj {x y : Inf} (h : x.dat = y.dat) : x = y := by
  obtain ⟨a, b, c, d, e⟩ := x
  obtain ⟨a', b', c', d', e'⟩ := y
  simpa [Inf.dat] using h
theorem Inf.val_inj {x y : Inf} (h : x.val = y.val) : x = y := by
  obtain ⟨a, b, c, d, e⟩ := x
  obtain ⟨a', b', c', d', e'⟩ := y
  simpa [Inf.val] using h

theorem keys3 : Keyed Tryd.prog 3 := int_keyed Tryd.underlying3

/-- The pair's second is the map's value at its first. -/
def InfAt (D0 : DataW Unit) (p : Int × Inf) : Prop := ∀ zd, D0.atKey (.int .i64 p.1) zd = p.2.dat
/-- All have come: the keys, each once, in some order; each with its value. -/
def InfsOf (D0 : DataW Unit) (ps : List (Int × Inf)) : Prop := (ps.map (·.1)).Nodup ∧ (∀ x, x ∈ ps.map (·.1) ↔ has D0 (.int .i64 x) = true) ∧ ∀ p ∈ ps, InfAt D0 p

set_option maxHeartbeats 1000000 in
theorem values1_in (F : Fence) (n : Nat) (h8 : F.fn 88) (hro : F.round = none) (hn : 1 ≤ n) (l Bm b nn : Nat) (D0 : DataW Unit) (J : List Inf → World → Prop)
    (hY : ∀ pre x W, J pre W → pre.length < Maps.size D0 → YieldAt F (n - 1) Tryd.prog l #[x.val] W fun e W' => e = .returned (.bool true) ∧ J (pre ++ [x]) W' ∧ KeepsWalks W W')
    (W : World) (hJ : AbidesFrom W.heap.size J) (hm : W.cell? ⟨Bm, 0, none⟩ = some (.map (some b))) (hown : W.ownsMap Tryd.prog 3 infR b nn D0) (h0 : J [] W) :
    CallsIn F n Tryd.prog 88 #[.func (.yield l) #[] #[], .pointer (some ⟨Bm, 0, none⟩)] W fun e W' => (∃ v, e = .returned v) ∧ ∃ xs, (∃ ps, InfsOf D0 ps ∧ xs = ps.map (·.2)) ∧ J xs W' := by
  refine callsIn_of_wp Tryd.func88 rfl h8 ?_ hro
  simp only [Tryd.ntmps88, List.size_toArray, List.length_cons, List.length_nil, Nat.reduceAdd, Nat.reduceSub, Array.replicate_succ, Array.replicate_zero, List.push_toArray, List.append_toArray, List.nil_append, List.cons_append]
  gi_wp2_with (first
    | (gi_at_range; refine wpListIn_range_own _ rfl _ 76 rfl 3 50 keys3 Tryd.underlying76 _ b nn _ rfl hown ?_; intro w0 hrg0 hg0 hs0)
    | gi_in)
  go_frame
  gi_loopw [4] (fun _ wr => ∃ (left : Lit → Bool) (cnt : Nat) (ps : List (Int × Inf)), wr.ranges Tryd.prog 3 infR b W.heap.size nn D0 left cnt ∧ ps.length + cnt ≤ Maps.size D0 ∧ CollectedI D0 left (ps.map (·.1)) ∧ (∀ p ∈ ps, InfAt D0 p) ∧ J (ps.map (·.2)) wr)
    (fun _ wr => wr.rangeLeft b W.heap.size)
  case atStart =>
    exact ⟨_, _, [], hrg0, by simp, CollectedI.start D0, by simp, hJ [] W w0 none h0 hg0 (fun r e => by cases e)⟩
  case round =>
    obtain ⟨left, cnt, ps, hrg, hcs, hC, hV, hJs⟩ := hrel
    gi_wp2_with (first
      | (gi_at_next; refine wpListIn_next_ranges _ rfl _ rfl 3 keys3 infR encZ Inf.val (fun key kl hk => by obtain ⟨x, hx, _⟩ := Maps.keyOf_i64 Tryd.underlying3 hk; exact ⟨x, hx⟩) (fun v y hv => by obtain ⟨c, rfl, _⟩ := infR_inv hv; exact ⟨c, rfl⟩) b W.heap.size nn _ _ _ rfl hrg ?_ ?_)
      | gi_in)
    · intro hc0 hl0
      gi_wp2
      go_end0
      exact ⟨⟨_, rfl⟩, _, ⟨ps, ⟨hC.1, fun x => by rw [hC.2 x, hl0]; simp, hV⟩, rfl⟩, hJs⟩
    · intro x c kl yd yp w2 cnt2 hkey hlk hv hat hrg2 hlt hg2 hs2 hen
      obtain ⟨x', ex, rfl, _⟩ := Maps.keyOf_i64 Tryd.underlying3 hkey
      obtain rfl : x = x' := encZ_inj ex
      obtain ⟨c', ec, ez⟩ := infR_inv hv
      obtain rfl : c = c' := Inf.val_inj ec
      obtain rfl : yd = c.dat := (Prod.mk.inj ez).1
      have hJ2 : J (ps.map (·.2)) w2 := hJ _ wr w2 (some W.heap.size) hJs hg2 (fun r e => by cases e; exact ⟨Nat.le_refl _, hrg.iter_walk⟩)
      obtain ⟨a0, a1, a2, a3, a4⟩ := c
      have hJ3 : J (ps.map (·.2)) (w2.alloc (.cells #[.int .i64 a0, .int .i64 a1, .int .i64 a2, .int .i64 a3, .int .u32 a4] 50)) := hJ _ w2 _ none hJ2 (World.grownBy_alloc _ _ _) (fun r e => by cases e)
      have hC2 : CollectedI D0 (fun z => left z && !z.sameKey (.int .i64 x)) ((ps ++ [(x, (⟨a0, a1, a2, a3, a4⟩ : Inf))]).map (·.1)) := by simpa using hC.step hlk hat
      have hV2 : ∀ p ∈ ps ++ [(x, (⟨a0, a1, a2, a3, a4⟩ : Inf))], InfAt D0 p := fun p hp => (List.mem_append.1 hp).elim (hV p) (fun e => by simp at e; subst e; exact hat)
      obtain ⟨fn, tmps, assign, body, hy, hR⟩ := hY (ps.map (·.2)) ⟨a0, a1, a2, a3, a4⟩ _ hJ3 (by simp; omega)
      have hrg2' := hrg2.alloc (.cells #[.int .i64 a0, .int .i64 a1, .int .i64 a2, .int .i64 a3, .int .u32 a4] 50)
      unfold Inf.val at hen hy
      simp only at hen hy
      clear hs2 hV hv ez ec hJ2 hJ3
      gi_wp2
      refine hR.mono ?_
      rintro e W3 ⟨rfl, hJ4, hk3⟩
      gi_wp2
      have hrg3 := hrg2'.of_walks hk3
      go_roundw
      case rel => exact ⟨_, cnt2, ps ++ [(x, ⟨a0, a1, a2, a3, a4⟩)], hrg3, by simp; omega, hC2, hV2, by simpa using hJ4⟩
      case measure => rw [hrg3.left_eq, hrg.left_eq]; exact hlt
end Go.Proofs.YtdpoahjgdndnhaaDoor
