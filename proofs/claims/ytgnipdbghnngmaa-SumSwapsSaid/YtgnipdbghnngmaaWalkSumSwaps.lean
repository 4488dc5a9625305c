/-
  The walk of SumSwaps: it returns true, and writes nothing that was there.
-/
import Derived.Test.YtgnipdbghnngmaaMore
import Derived.Deep.RegionHeld3
namespace Go.Proofs.Ytgnipdbghnngmaa.sumSwaps
open Go.RowKit

set_option maxRecDepth 100000 in
set_option maxHeartbeats 2000000 in
theorem walk (a0 : Option Addr) (len0 cap0 : Nat) (z0 : List Int) (a1 : Int) (w : World) (w0 : IsRow .u8 w a0 len0 cap0 z0) (_w1 : (Lit.int .i64 a1).wf = true) :
    Calls Try.prog 6 #[.slice a0 len0 cap0, .int .i64 a1] w fun e w' => e = .returned (.bool true) ∧ Below w.heap.size w w' := by
  obtain ⟨bs, hlen, hBy, hcap, hmax, hnone⟩ := Bytes.of_row w0
  clear w0
  by_cases h1 : len0 < 2
  · clear hlen hBy hmax
    go_enter Try.func6, Try.ntmps6
    go_wp2_with fail
    refine (told_any _).mono ?_
    rintro e wt ⟨rfl, hbt⟩
    go_wp2
    go_ret
    exact ⟨rfl, hbt⟩
  by_cases h200 : 200 < len0
  · clear hlen hBy hmax
    go_enter Try.func6, Try.ntmps6
    go_wp2_with fail
    refine (told_any _).mono ?_
    rintro e wt ⟨rfl, hbt⟩
    go_wp2
    go_ret
    exact ⟨rfl, hbt⟩
  obtain ⟨U, hU⟩ := wrap_nat a1
  obtain ⟨L, hL⟩ : ∃ L, L = len0 - 1 := ⟨_, rfl⟩
  have hLz : (len0 : Int) - 1 = (L : Int) := by omega
  have hLp : 0 < L := by omega
  have hLm : L ≤ 199 := by omega
  obtain ⟨k, hk⟩ : ∃ k, U % L = k := ⟨_, rfl⟩
  have hkL : k < L := hk ▸ Nat.mod_lt U hLp
  have hkz : (U : Int) % (L : Int) = (k : Int) := by rw [← hk]; simp
  have hk1 : k + 1 < len0 := by omega
  clear hk hL
  obtain ⟨b, off, rfl, hcell⟩ := hBy.at_ (by omega)
  have hck := hcell k (by omega)
  have hcl := hcell (k + 1) (by omega)
  have hd256 := hBy.1 _ (getD_mem (i := k) (by omega))
  have he256 := hBy.1 _ (getD_mem (i := k + 1) (by omega))
  have hswap := more_swaps (s := 1) (k := k) (bs := bs) (by omega) hBy.1
  have hset : ∀ x ∈ (bs.set k (bs.getD (k + 1) 0)).set (k + 1) (bs.getD k 0), x < 256 := fun x hx => by
    rw [set_at (by rw [List.length_set]; omega)] at hx
    have hin : ∀ y ∈ bs.set k (bs.getD (k + 1) 0), y < 256 := fun y hy => by
      rw [set_at (by omega)] at hy
      rcases List.mem_append.1 hy with hy | hy
      · exact hBy.1 y (List.mem_of_mem_take hy)
      · rcases List.mem_cons.1 hy with rfl | hy
        · exact he256
        · exact hBy.1 y (List.mem_of_mem_drop hy)
    rcases List.mem_append.1 hx with hx | hx
    · exact hin x (List.mem_of_mem_take hx)
    · rcases List.mem_cons.1 hx with rfl | hx
      · exact hd256
      · exact hin x (List.mem_of_mem_drop hx)
  have hown0 : (w.alloc (.cells #[] 5)).ownsRow w.heap.size 5 1 (.slice (some ⟨w.heap.size, 0, none⟩) 0 0) 0 [] := World.ownsRow_lit w #[] 0 (Nat.le_refl _) (by decide) rfl
  have HOWN0 := Lib.hid hown0
  have hb0 : Below w.heap.size w (w.alloc (.cells #[] 5)) := (Below.refl _ _).alloc (Nat.le_refl _) _
  have hsz0 := hb0.size
  generalize bs.getD k 0 = d at *
  generalize bs.getD (k + 1) 0 = f at *
  have HSWAP := Lib.hid hswap
  have HCK := Lib.hid hck
  have HCL := Lib.hid hcl
  have HBY := Lib.hid hBy
  have HLEN := Lib.hid hlen
  have HMAX := Lib.hid hmax
  have HSET := Lib.hid hset
  clear hown0 hcell hck hcl hswap hBy hlen hmax hset
  go_enter Try.func6, Try.ntmps6
  go_wp2_with (at_builtin; refine wpList_append_bytes rfl _ _ rfl w.heap.size _ _ _ rfl HOWN0.out (some ⟨b, off, none⟩) len0 cap0 bs rfl (HBY.out.below hb0) HLEN.out hcap hnone (by omega) hsz0 ?_)
  intro v1 wa hown1 hgrow1
  have hb1 : Below w.heap.size w wa := hb0.grown hgrow1 hsz0 (fun k h => (HOWN0.out.lt k h).1)
  replace hown1 : wa.ownsRow w.heap.size 5 1 v1 len0 (bytesV bs) := by simpa using hown1
  obtain ⟨g1, cap1, rfl, hg11, hg12⟩ := hown1.form (by omega)
  have hcw : wa.cell? ⟨g1, k, none⟩ = some (.int .u8 ((bs.getD k 0 : Nat) : Int)) := by
    rw [hown1.cellAt k (by omega), bytesV_get _ _ (by rw [HLEN.out]; omega)]
  have hcw2 : wa.cell? ⟨g1, k + 1, none⟩ = some (.int .u8 ((bs.getD (k + 1) 0 : Nat) : Int)) := by
    rw [hown1.cellAt (k + 1) (by omega), bytesV_get _ _ (by rw [HLEN.out]; omega)]
  have hfz : wa.frozen? ⟨g1, k, none⟩ = false := hown1.frozenAt k
  have hfz2 : wa.frozen? ⟨g1, k + 1, none⟩ = false := hown1.frozenAt (k + 1)
  generalize bs.getD k 0 = d' at hcw
  generalize bs.getD (k + 1) 0 = f' at hcw2
  have hst := (hown1.stored k (.int .u8 (f : Int))).1
  rw [bytesV_set] at hst
  have hst2 := (hst.stored (k + 1) (.int .u8 (d : Int))).1
  rw [bytesV_set] at hst2
  have hb2 : Below w.heap.size w (wa.setCell ⟨g1, k, none⟩ (.int .u8 (f : Int))) := hb1.setCell hg11 _
  have hb3 : Below w.heap.size w ((wa.setCell ⟨g1, k, none⟩ (.int .u8 (f : Int))).setCell ⟨g1, k + 1, none⟩ (.int .u8 (d : Int))) := hb2.setCell hg11 _
  have HST := Lib.hid hst2
  have HB3 := Lib.hid hb3
  have hbl := World.block_lt_of_cell? w _ HCK.out
  have hxk : wa.cell? ⟨b, off + k, none⟩ = some (.int .u8 (d : Int)) := by
    rw [hb1.cell hbl]; exact HCK.out
  have hxl : wa.cell? ⟨b, off + (k + 1), none⟩ = some (.int .u8 (f : Int)) := by
    rw [hb1.cell (p := ⟨b, off + (k + 1), none⟩) hbl]; exact HCL.out
  have hbg : b ≠ g1 := fun e => by subst e; exact absurd hbl (Nat.not_lt.2 hg11)
  have i1 : (0 : Int) ≤ (k : Int) := by omega
  have i2 : (k : Int) < (len0 : Int) := by omega
  have i3 : (0 : Int) ≤ (k : Int) + 1 := by omega
  have i4 : (k : Int) + 1 < (len0 : Int) := by omega
  have i5 : ((k : Int) + 1).toNat = k + 1 := by omega
  clear hown1 hgrow1 HOWN0 hb0 hsz0 hst hst2 hb1 hb2 hb3 hbl
  go_wp2_with fail
  go_region
  go_wp2_with fail
  have hO := HST.out
  obtain ⟨hBx0, hlx, hcx, hmxx, _, _⟩ := Bytes.own hO HSET.out
  have hBx := hBx0.below (Below.refl _ _).drew
  have HB2 := Lib.hid HB3.out.drew
  clear hO HST hfz hfz2 hcw hcw2 hBx0 HB3 hxk hxl
  generalize ((wa.setCell ⟨g1, k, none⟩ (.int .u8 (f : Int))).setCell ⟨g1, k + 1, none⟩ (.int .u8 (d : Int))).drew = ws at *
  have hox : ∀ w', Below ws.heap.size ws w' → Calls Try.prog 9 #[.slice (some ⟨g1, 0, none⟩) len0 cap1] w' fun e w'' => e = .returned (.int .u32 (more 1 ((bs.set k f).set (k + 1) d) : Int)) ∧ w' = w'' := fun w' hb => of_any hlx (hBx.below hb) hcx hmxx
  have hob : ∀ w', Below ws.heap.size ws w' → Calls Try.prog 9 #[.slice (some ⟨b, off, none⟩) len0 cap0] w' fun e w'' => e = .returned (.int .u32 (more 1 bs : Int)) ∧ w' = w'' := fun w' hb => of_any HLEN.out ((HBY.out.below HB2.out).below hb) hcap HMAX.out
  have hk0 : ws.cell? ⟨b, off + k, none⟩ = some (.int .u8 (d : Int)) := by
    rw [HB2.out.cell (World.block_lt_of_cell? w _ HCK.out)]; exact HCK.out
  have hl0 : ws.cell? ⟨b, off + (k + 1), none⟩ = some (.int .u8 (f : Int)) := by
    rw [HB2.out.cell (World.block_lt_of_cell? w _ HCL.out)]; exact HCL.out
  have hcell : ∀ w', Below ws.heap.size ws w' → w'.cell? ⟨b, off + k, none⟩ = some (.int .u8 (d : Int)) ∧ w'.cell? ⟨b, off + (k + 1), none⟩ = some (.int .u8 (f : Int)) := fun w' hb => by
    rw [hb.cell (World.block_lt_of_cell? ws _ hk0), hb.cell (World.block_lt_of_cell? ws _ hl0)]; exact ⟨hk0, hl0⟩
  have HOX := Lib.hid hox
  have HOB := Lib.hid hob
  have HCELL := Lib.hid hcell
  clear hox hob hcell hBx hlx hcx hmxx HBY HLEN HMAX HCK HCL HSET
  generalize more 1 ((bs.set k f).set (k + 1) d) = X at *
  generalize more 1 bs = Y at *
  have i6 : IntKind.i64.wrap ((k : Int) + 1) = (k : Int) + 1 := by rw [IntKind.wrap_i64]; omega
  by_cases hdf : d = f
  · obtain rfl := HSWAP.out.2 hdf
    subst hdf
    go_region_held3 (fun w' => w'.cell? ⟨b, off + k, none⟩ = some (.int .u8 (d : Int)) ∧ w'.cell? ⟨b, off + (k + 1), none⟩ = some (.int .u8 (d : Int)))
      (first
        | go_keep
        | exact HCELL.out _ hB)
      (first
        | (go_at_call 8; refine (told_any _).mono ?_; rintro e wt ⟨rfl, hbt⟩; have hB : Below ws.heap.size ws wt := (belowN ws 1).trans hbt)
        | (go_at_call 9; refine (HOX.out _ hB).mono ?_; rintro e wv ⟨rfl, rfl⟩)
        | (go_at_call 9; refine (HOB.out _ hB).mono ?_; rintro e wv ⟨rfl, rfl⟩))
    all_goals
      go_wp2
      go_ret
      exact ⟨rfl, HB2.out.trans (hB.mono HB2.out.size)⟩
  · have hXY : X ≠ Y := fun e => hdf (HSWAP.out.1 e)
    have t1 : ((X : Int) == (Y : Int)) = false := by simp; omega
    have t2 : ((d : Int) == (f : Int)) = false := by simp; omega
    clear hXY hdf
    go_region_held3 (fun w' => w'.cell? ⟨b, off + k, none⟩ = some (.int .u8 (d : Int)) ∧ w'.cell? ⟨b, off + (k + 1), none⟩ = some (.int .u8 (f : Int)))
      (first
        | go_keep
        | exact HCELL.out _ hB)
      (first
        | (go_at_call 8; refine (told_any _).mono ?_; rintro e wt ⟨rfl, hbt⟩; have hB : Below ws.heap.size ws wt := (belowN ws 1).trans hbt)
        | (go_at_call 9; refine (HOX.out _ hB).mono ?_; rintro e wv ⟨rfl, rfl⟩)
        | (go_at_call 9; refine (HOB.out _ hB).mono ?_; rintro e wv ⟨rfl, rfl⟩))
    all_goals
      go_wp2
      go_ret
      exact ⟨rfl, HB2.out.trans (hB.mono HB2.out.size)⟩
end Go.Proofs.Ytgnipdbghnngmaa.sumSwaps
