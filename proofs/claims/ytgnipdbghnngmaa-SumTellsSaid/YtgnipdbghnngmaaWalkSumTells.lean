/-
  The walk of SumTells: it returns true, and writes nothing that was there.
-/
import Derived.Test.YtgnipdbghnngmaaMore
import Derived.Deep.RegionHeld3
namespace Go.Proofs.Ytgnipdbghnngmaa.sumTells
open Go.RowKit

set_option maxRecDepth 100000 in
set_option maxHeartbeats 2000000 in
theorem walk (a0 : Option Addr) (len0 cap0 : Nat) (z0 : List Int) (a1 : Int) (a2 : Int) (w : World) (w0 : IsRow .u8 w a0 len0 cap0 z0) (_w1 : (Lit.int .i64 a1).wf = true) (w2 : (Lit.int .u8 a2).wf = true) :
    Calls Try.prog 5 #[.slice a0 len0 cap0, .int .i64 a1, .int .u8 a2] w fun e w' => e = .returned (.bool true) ∧ Below w.heap.size w w' := by
  obtain ⟨l2, u2⟩ := fits_u8 w2
  clear w2
  obtain ⟨c, rfl⟩ := Int.eq_ofNat_of_zero_le l2
  have hc : c < 256 := by omega
  clear l2 u2
  obtain ⟨bs, hlen, hBy, hcap, hmax, hnone⟩ := Bytes.of_row w0
  clear w0
  by_cases h1 : len0 < 1
  · clear hlen hBy hmax
    go_enter Try.func5, Try.ntmps5
    go_wp2_with fail
    refine (told_any _).mono ?_
    rintro e wt ⟨rfl, hbt⟩
    go_wp2
    go_ret
    exact ⟨rfl, hbt⟩
  by_cases h300 : 300 < len0
  · clear hlen hBy hmax
    go_enter Try.func5, Try.ntmps5
    go_wp2_with fail
    refine (told_any _).mono ?_
    rintro e wt ⟨rfl, hbt⟩
    go_wp2
    go_ret
    exact ⟨rfl, hbt⟩
  obtain ⟨U, hU⟩ := wrap_nat a1
  obtain ⟨k, hk⟩ : ∃ k, U % len0 = k := ⟨_, rfl⟩
  have hkL : k < len0 := hk ▸ Nat.mod_lt U (by omega)
  have hkz : (U : Int) % (len0 : Int) = (k : Int) := by rw [← hk]; simp
  clear hk
  obtain ⟨b, off, rfl, hcell⟩ := hBy.at_ (by omega)
  have hck := hcell k (by omega)
  have hd256 := hBy.1 _ (getD_mem (i := k) (by omega))
  have htell := more_tells (s := 1) (k := k) (c := c) (by omega) hBy.1 hc
  have HSET : Hid (∀ x ∈ bs.set k c, x < 256) := Lib.hid (fun x hx => by
    rw [set_at (by omega)] at hx
    rcases List.mem_append.1 hx with hx | hx
    · exact hBy.1 x (List.mem_of_mem_take hx)
    · rcases List.mem_cons.1 hx with rfl | hx
      · exact hc
      · exact hBy.1 x (List.mem_of_mem_drop hx))
  generalize bs.getD k 0 = d at hck hd256 htell
  have HTELL := Lib.hid htell
  have HCK := Lib.hid hck
  have HBY := Lib.hid hBy
  have HLEN := Lib.hid hlen
  have HMAX := Lib.hid hmax
  have hown0 : (w.alloc (.cells #[] 5)).ownsRow w.heap.size 5 1 (.slice (some ⟨w.heap.size, 0, none⟩) 0 0) 0 [] := World.ownsRow_lit w #[] 0 (Nat.le_refl _) (by decide) rfl
  have HOWN0 := Lib.hid hown0
  have hb0 : Below w.heap.size w (w.alloc (.cells #[] 5)) := (Below.refl _ _).alloc (Nat.le_refl _) _
  have hsz0 := hb0.size
  clear hown0 hcell hck htell hBy hlen hmax
  go_enter Try.func5, Try.ntmps5
  go_wp2_with (at_builtin; refine wpList_append_bytes rfl _ _ rfl w.heap.size _ _ _ rfl HOWN0.out (some ⟨b, off, none⟩) len0 cap0 bs rfl (HBY.out.below hb0) HLEN.out hcap hnone (by omega) hsz0 ?_)
  intro v1 wa hown1 hgrow1
  have hb1 : Below w.heap.size w wa := hb0.grown hgrow1 hsz0 (fun k h => (HOWN0.out.lt k h).1)
  replace hown1 : wa.ownsRow w.heap.size 5 1 v1 len0 (bytesV bs) := by simpa using hown1
  obtain ⟨g1, cap1, rfl, hg11, hg12⟩ := hown1.form (by omega)
  have hcw : wa.cell? ⟨g1, k, none⟩ = some (.int .u8 ((bs.getD k 0 : Nat) : Int)) := by
    rw [hown1.cellAt k (by omega), bytesV_get _ _ (by rw [HLEN.out]; omega)]
  have hfz : wa.frozen? ⟨g1, k, none⟩ = false := hown1.frozenAt k
  generalize bs.getD k 0 = d' at hcw
  have hst := hown1.stored k (.int .u8 (c : Int))
  rw [bytesV_set] at hst
  have hb2 : Below w.heap.size w (wa.setCell ⟨g1, k, none⟩ (.int .u8 (c : Int))) := hb1.setCell hg11 _
  have HST := Lib.hid hst
  have HB2 := Lib.hid hb2
  clear hown1 hgrow1 HOWN0 hb0 hsz0 hst hb1 hb2
  go_wp2_with fail
  have hO := HST.out.1
  obtain ⟨hBx, hlx, hcx, hmxx, _, _⟩ := Bytes.own hO HSET.out
  clear hO HST hfz hcw
  generalize wa.setCell ⟨g1, k, none⟩ (.int .u8 (c : Int)) = ws at *
  have hox : ∀ w', Below ws.heap.size ws w' → Calls Try.prog 9 #[.slice (some ⟨g1, 0, none⟩) len0 cap1] w' fun e w'' => e = .returned (.int .u32 (more 1 (bs.set k c) : Int)) ∧ w' = w'' := fun w' hb => of_any hlx (hBx.below hb) hcx hmxx
  have hob : ∀ w', Below ws.heap.size ws w' → Calls Try.prog 9 #[.slice (some ⟨b, off, none⟩) len0 cap0] w' fun e w'' => e = .returned (.int .u32 (more 1 bs : Int)) ∧ w' = w'' := fun w' hb => of_any HLEN.out ((HBY.out.below HB2.out).below hb) hcap HMAX.out
  have hcell : ∀ w', Below ws.heap.size ws w' → w'.cell? ⟨b, off + k, none⟩ = some (.int .u8 (d : Int)) := fun w' hb => by
    have h0 : ws.cell? ⟨b, off + k, none⟩ = some (.int .u8 (d : Int)) := by
      rw [HB2.out.cell (World.block_lt_of_cell? w _ HCK.out)]; exact HCK.out
    rw [hb.cell (World.block_lt_of_cell? ws _ h0)]; exact h0
  have hcs := hcell ws (Below.refl _ _)
  have HOX := Lib.hid hox
  have HOB := Lib.hid hob
  have HCELL := Lib.hid hcell
  have i1 : (0 : Int) ≤ (k : Int) := by omega
  have i2 : (k : Int) < (len0 : Int) := by omega
  clear hox hob hcell hBx hlx hcx hmxx HBY HLEN HMAX HCK HSET
  generalize more 1 (bs.set k c) = X at *
  generalize more 1 bs = Y at *
  by_cases hcd : c = d
  · obtain rfl := HTELL.out.2 hcd
    subst hcd
    go_region_held3 (fun w' => w'.cell? ⟨b, off + k, none⟩ = some (.int .u8 (c : Int)))
      (first
        | go_keep
        | exact HCELL.out _ hB)
      (first
        | (go_at_call 8; refine (told_any _).mono ?_; rintro e wt ⟨rfl, hbt⟩; have hB : Below ws.heap.size ws wt := (belowN ws 1).trans hbt)
        | (go_at_call 9; refine (HOX.out _ hB).mono ?_; rintro e wv ⟨rfl, rfl⟩)
        | (go_at_call 9; refine (HOB.out _ hB).mono ?_; rintro e wv ⟨rfl, rfl⟩))
    all_goals
      go_wp2
      go_ret
      exact ⟨rfl, HB2.out.trans (hB.mono HB2.out.size)⟩
  · have hXY : X ≠ Y := fun e => hcd (HTELL.out.1 e)
    have t1 : ((X : Int) == (Y : Int)) = false := by simp; omega
    have t2 : ((c : Int) == (d : Int)) = false := by simp; omega
    clear hXY hcd
    go_region_held3 (fun w' => w'.cell? ⟨b, off + k, none⟩ = some (.int .u8 (d : Int)))
      (first
        | go_keep
        | exact HCELL.out _ hB)
      (first
        | (go_at_call 8; refine (told_any _).mono ?_; rintro e wt ⟨rfl, hbt⟩; have hB : Below ws.heap.size ws wt := (belowN ws 1).trans hbt)
        | (go_at_call 9; refine (HOX.out _ hB).mono ?_; rintro e wv ⟨rfl, rfl⟩)
        | (go_at_call 9; refine (HOB.out _ hB).mono ?_; rintro e wv ⟨rfl, rfl⟩))
    all_goals
      go_wp2
      go_ret
      exact ⟨rfl, HB2.out.trans (hB.mono HB2.out.size)⟩
end Go.Proofs.Ytgnipdbghnngmaa.sumTells
