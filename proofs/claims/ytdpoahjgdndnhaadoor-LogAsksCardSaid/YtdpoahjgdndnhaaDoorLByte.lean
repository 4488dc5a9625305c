/-
  slices.Grow and Concat over rows of bytes.
-/
import Derived.Test.YtdpoahjgdndnhaaDoorEByte
import Derived.Test.YtdpoahjgdndnhaaDoorUMore
import Derived.Lib.AppendZerosOnto
set_option maxRecDepth 100000
namespace Go.Proofs.YtdpoahjgdndnhaaDoor
open Go.RowKit
attribute [local go_sem ↓] Go.wp_at_zero Go.wp_at_succ
set_option linter.unusedVariables false

set_option maxHeartbeats 1000000 in
theorem growB_any (n : Nat) (w : World) (h0 : 0 < n) (hl : n ≤ 100000) :
    Calls Tryd.prog 92 #[.slice none 0 0, .int .i64 (n : Int)] w fun e w' => ∃ v, e = .returned v ∧ w'.ownsRow w.heap.size 5 1 v 0 (bytesV []) ∧ Below w.heap.size w w' := by
  obtain ⟨i0', hi, hz0, hz1, hz2⟩ := info_parts Tryd.info5
  have hrz := fun ty => Lib.run_append_grow_zeros w 26 3 ty 5 i0' (.int .u8 0) .i64 .i64 Tryd.underlying26 Tryd.underlying3 hi hz0 none 0 0 [] (run_firstCells_none w.drew i0'.size 0 0 0) n h0 (by omega) (by omega) (by omega) (by rw [hz2]; omega) (by rw [Nat.zero_add]; exact growslice_fits h0 (by rw [hz2]; omega))
  simp only [Nat.zero_add] at hrz
  have hG : n ≤ grownCap w n 0 5 := grownCap_ge w _ _ _
  have hG2 : grownCap w n 0 5 ≤ maxLen := grownCap_le_maxLen w n 0 5 (by unfold maxLen; omega)
  generalize grownCap w n 0 5 = G at hrz hG hG2
  obtain ⟨cs, hcs⟩ : ∃ cs, cs = ([] : List Value).toArray ++ Builtin.zeroCells (Value.int .u8 0).cells n ++ Builtin.zeroCells (Value.int .u8 0).cells (G - n) := ⟨_, rfl⟩
  have hsz : cs.size = G * 1 := by
    rw [hcs]
    simp only [Array.size_append, size_zeroCells]
    show 0 + n * 1 + (G - n) * 1 = G * 1
    omega
  rw [← hcs] at hrz
  have HO : Hid ((w.drew.alloc (.cells cs 5)).ownsRow w.heap.size 5 1 (.slice (some ⟨w.heap.size, 0, none⟩) 0 G) 0 (bytesV [])) := Lib.hid (World.ownsRow_made w.drew cs G (Nat.le_refl _) hG2 hsz)
  have HB : Hid (Below w.heap.size w (w.drew.alloc (.cells cs 5))) := Lib.hid (past_alloc (Below.refl _ _).drew _)
  have i1 : ¬ ((n : Int) < 0) := by omega
  have i2 : (n : Int) > 0 := by omega
  have i3 : IntKind.i64.wrap (n : Int) = n := by rw [IntKind.wrap_i64]; omega
  clear hcs hsz hi hz0 hz1 hz2
  unfold maxLen at hG2
  have HRZ := Lib.hid hrz
  clear hrz
  go_enter Tryd.func92, Tryd.ntmps92
  go_wp2_with (at_builtin; refine Lib.wpList_append_run _ rfl _ _ _ _ rfl _ _ rfl rfl _ _ (HRZ.out _) ?_)
  all_goals
    go_ret
    exact ⟨_, rfl, HO.out, HB.out⟩

/-- The first k of some rows, one behind the other. -/
def catN (D : Nat → List Nat) : Nat → List Nat
  | 0 => []
  | k + 1 => catN D k ++ D k
theorem catN_le (D : Nat → List Nat) {i j : Nat} (h : i ≤ j) : (catN D i).length ≤ (catN D j).length := by
  induction j with
  | zero => rw [show i = 0 by omega]; exact Nat.le_refl _
  | succ j ih =>
    rcases Nat.lt_or_ge i (j + 1) with h1 | h1
    · have := ih (by omega)
      have e : (catN D (j + 1)).length = (catN D j).length + (D j).length := by rw [catN, List.length_append]
      omega
    · rw [show i = j + 1 by omega]; exact Nat.le_refl _

set_option maxHeartbeats 1000000 in
theorem concatB_any {g c k n : Nat} {A : Nat → Option Addr} {N C : Nat → Nat} {D : Nat → List Nat} {w : World} (hr : ∀ j, j < k → BRow w (A j) (N j) (C j) (D j)) (hc : ∀ j, j < k → w.cell? ⟨g, j, none⟩ = some (.slice (A j) (N j) (C j)))
    (hk : k ≤ c) (hm : c ≤ 1000) (hn : (catN D k).length = n) (h0 : 0 < n) (hl : n ≤ 100000) :
    Calls Tryd.prog 77 #[.slice (some ⟨g, 0, none⟩) k c] w fun e w' => ∃ v, e = .returned v ∧ w'.ownsRow w.heap.size 5 1 v n (bytesV (catN D k)) ∧ Below w.heap.size w w' := by
  have m1 := growB_any n w h0 hl
  have M1 := Lib.hid m1
  have HR := Lib.hid hr
  have HN := Lib.hid hn
  have HC : Hid (∀ w', Below w.heap.size w w' → ∀ j, j < k → w'.cell? ⟨g, j, none⟩ = some (.slice (A j) (N j) (C j))) := Lib.hid (fun w' hb j hj => by rw [hb.cell (World.block_lt_of_cell? w _ (hc j hj))]; exact hc j hj)
  clear hc hr hn m1
  go_enter Tryd.func77, Tryd.ntmps77
  go_wp2
  go_loopw [11, 3] (fun si st wr => ∃ (j S : Nat), j ≤ k ∧ si = .int .i64 (j : Int) ∧ st = .int .i64 (S : Int) ∧ Hid (S = (catN D j).length) ∧ w = wr) (fun si _ _ => k - (intOf si).toNat)
  case atStart => exact ⟨0, 0, by omega, rfl, rfl, Lib.hid rfl, rfl⟩
  case round =>
    obtain ⟨j, S1, hj, rfl, rfl, HS1, rfl⟩ := hrel
    by_cases hlt : j < k
    · have q := HC.out _ (Below.refl _ _) j hlt
      have i1 : (0 : Int) ≤ (j : Int) := by omega
      have i2 : (j : Int) < (k : Int) := by omega
      have hs : (catN D (j + 1)).length = S1 + N j := by rw [catN, List.length_append, (HR.out j hlt).len, HS1.out]
      have hle := catN_le D (show j + 1 ≤ k by omega)
      rw [HN.out, hs] at hle
      have i3 : IntKind.i64.wrap ((S1 : Int) + (N j : Int)) = ((S1 + N j : Nat) : Int) := by rw [IntKind.wrap_i64]; omega
      have i4 : ¬ (((S1 + N j : Nat) : Int) < 0) := by omega
      have HS : Hid (S1 + N j = (catN D (j + 1)).length) := Lib.hid hs.symm
      clear hs hle HS1
      generalize N j = nj at q i3 i4 HS
      generalize C j = cj at q
      generalize A j = aj at q
      go_wp2
      go_roundw
      case rel => exact ⟨j + 1, S1 + nj, by omega, by go_num, rfl, HS, trivial⟩
      case measure => simp [intOf]; omega
    · obtain rfl : j = k := by omega
      obtain rfl : S1 = n := by rw [HS1.out, HN.out]
      go_wp2_with fail
      refine M1.out.mono ?_
      rintro e w2 ⟨v2, rfl, hown, hb⟩
      have HO := Lib.hid hown
      have HB := Lib.hid hb
      clear hown hb M1
      go_wp2
      go_loopw [27, 6] (fun si sv wr => ∃ (i : Nat) (v : Value), i ≤ j ∧ si = .int .i64 (i : Int) ∧ v = sv ∧ Hid (wr.ownsRow w.heap.size 5 1 sv (catN D i).length (bytesV (catN D i)) ∧ Below w.heap.size w wr)) (fun si _ _ => j - (intOf si).toNat)
      case atStart => exact ⟨0, _, by omega, rfl, rfl, Lib.hid ⟨HO.out, HB.out⟩⟩
      case round =>
        obtain ⟨i, v, hi, rfl, rfl, HI⟩ := hrel
        by_cases hlt : i < j
        · have q := HC.out _ HI.out.2 i hlt
          have i1 : (0 : Int) ≤ (i : Int) := by omega
          have i2 : (i : Int) < (j : Int) := by omega
          have hle := catN_le D (show i + 1 ≤ j by omega)
          have hs : (catN D (i + 1)).length = (catN D i).length + N i := by rw [catN, List.length_append, (HR.out i hlt).len]
          have HROW := Lib.hid ((HR.out i hlt).below HI.out.2)
          have HNX : Hid (∀ v3 w3, w3.ownsRow w.heap.size 5 1 v3 ((catN D i).length + N i) (bytesV (catN D i ++ D i)) → wr.grownBy w3 v.ownBlock → (w3.ownsRow w.heap.size 5 1 v3 (catN D (i + 1)).length (bytesV (catN D (i + 1))) ∧ Below w.heap.size w w3)) := Lib.hid (fun v3 w3 h1 h2 => ⟨by rw [hs, catN]; exact h1, HI.out.2.grown h2 HI.out.2.size (fun k h => (HI.out.1.lt k h).1)⟩)
          have hbig : (catN D i).length + N i ≤ 100000 := by rw [hs, HN.out] at hle; omega
          have HBIG := Lib.hid hbig
          clear hle hs hbig
          generalize N i = nj at *
          generalize C i = cj at *
          generalize A i = aj at *
          go_wp2_with (at_builtin; refine wpList_append_brow rfl _ _ rfl w.heap.size _ _ nj (catN D i) (D i) rfl HI.out.1 aj cj rfl HROW.out HBIG.out HI.out.2.size ?_)
          intro v3 w3 hown hgrow
          have H3 := Lib.hid (HNX.out v3 w3 hown hgrow)
          clear hown hgrow HNX HROW HBIG HI q
          go_wp2
          go_roundw
          case rel => exact ⟨i + 1, _, by omega, by go_num, rfl, H3⟩
          case measure => simp [intOf]; omega
        · obtain rfl : i = j := by omega
          have HF : Hid (wr.ownsRow w.heap.size 5 1 v S1 (bytesV (catN D i)) ∧ Below w.heap.size w wr) := Lib.hid (by have := HI.out; rw [HN.out] at this; exact this)
          clear HI
          go_wp2
          go_ret
          exact ⟨_, rfl, HF.out⟩

end Go.Proofs.YtdpoahjgdndnhaaDoor
