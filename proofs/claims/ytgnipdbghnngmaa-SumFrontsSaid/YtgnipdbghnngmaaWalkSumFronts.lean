/-
  The walk of SumFronts: it returns true, and writes nothing that was there.
-/
import Derived.Test.YtgnipdbghnngmaaMore
namespace Go.Proofs.Ytgnipdbghnngmaa.sumFronts
open Go.RowKit

set_option maxRecDepth 100000 in
set_option maxHeartbeats 1000000 in
theorem walk (a0 : Option Addr) (len0 cap0 : Nat) (z0 : List Int) (a1 : Int) (w : World) (w0 : IsRow .u8 w a0 len0 cap0 z0) (w1 : (Lit.int .u8 a1).wf = true) :
    Calls Try.prog 7 #[.slice a0 len0 cap0, .int .u8 a1] w fun e w' => e = .returned (.bool true) ∧ Below w.heap.size w w' := by
  obtain ⟨l1, u1⟩ := fits_u8 w1
  clear w1
  obtain ⟨c, rfl⟩ := Int.eq_ofNat_of_zero_le l1
  have hc : c < 256 := by omega
  clear l1 u1
  obtain ⟨bs, hlen, hBy, hcap, hmax, hnone⟩ := Bytes.of_row w0
  clear w0
  by_cases h100 : 100 < len0
  · clear hlen hBy hmax
    go_enter Try.func7, Try.ntmps7
    go_wp2_with fail
    refine (told_any _).mono ?_
    rintro e wt ⟨rfl, hbt⟩
    go_wp2
    go_ret
    exact ⟨rfl, hbt⟩
  have hof := of_any hlen hBy hcap hmax
  have HOF := Lib.hid hof
  have HBY := Lib.hid hBy
  have HLEN := Lib.hid hlen
  have hS := more_lt 1 bs
  have HLAST := Lib.hid (more_last 1 c bs)
  have HONE := Lib.hid (more_one (more 1 bs) c hS)
  clear hof hBy hlen hmax
  obtain ⟨S, hSe⟩ : ∃ S, S = more 1 bs := ⟨_, rfl⟩
  rw [← hSe] at HOF hS HLAST HONE
  clear hSe
  have hmm : (S : Int) * 257 + (c : Int) + 1 = ((S * 257 + c + 1 : Nat) : Int) := by omega
  have hm41 : S * 257 + c + 1 < 1200000000000 := by omega
  obtain ⟨m, hm⟩ : ∃ m, m = S * 257 + c + 1 := ⟨_, rfl⟩
  rw [← hm] at hmm hm41 HLAST HONE
  clear hm
  have hrem := rem_nat m
  obtain ⟨D, hD⟩ : ∃ D, D = m % 4294967291 := ⟨_, rfl⟩
  rw [← hD] at hrem HLAST HONE
  have hDlt : D < 4294967291 := by omega
  clear hD
  go_enter Try.func7, Try.ntmps7
  go_wp2_with fail
  refine HOF.out.mono ?_
  rintro e w1 ⟨rfl, rfl⟩
  go_wp2_with fail
  refine (told_any _).mono ?_
  rintro e wt ⟨rfl, hbt⟩
  have hown0 : (wt.alloc (.cells #[] 5)).ownsRow w.heap.size 5 1 (.slice (some ⟨wt.heap.size, 0, none⟩) 0 0) 0 [] := World.ownsRow_lit wt #[] 0 hbt.size (by decide) rfl
  have HOWN0 := Lib.hid hown0
  have hb0 : Below w.heap.size w (wt.alloc (.cells #[] 5)) := hbt.alloc hbt.size _
  have hsz0 := hb0.size
  clear hown0
  go_wp2_with (at_builtin; refine wpList_on (by rfl) ?_; refine wpList_append_bytes rfl _ _ rfl w.heap.size _ _ _ rfl HOWN0.out a0 len0 cap0 bs rfl (HBY.out.below hb0) HLEN.out hcap hnone (by omega) hsz0 ?_)
  intro v1 wa hown1 hgrow1
  have hb1 : Below w.heap.size w wa := hb0.grown hgrow1 hsz0 (fun k h => (HOWN0.out.lt k h).1)
  replace hown1 : wa.ownsRow w.heap.size 5 1 v1 len0 (bytesV bs) := by simpa using hown1
  have hown1' := hown1.alloc (.cells #[.int .u8 (c : Int)] 5)
  have hb1' : Below w.heap.size w (wa.alloc (.cells #[.int .u8 (c : Int)] 5)) := hb1.alloc hb1.size _
  have hlit : Bytes (wa.alloc (.cells #[.int .u8 (c : Int)] 5)) (some ⟨wa.heap.size, 0, none⟩) [c] := .of_at (by simpa using hc) fun j hj => by
    match j, hj with
    | 0, _ => simp
  have HOWN1 := Lib.hid hown1'
  have HLIT := Lib.hid hlit
  have hsz1 := hb1'.size
  clear hown1 hown1' hlit hgrow1 HOWN0 hb0 hsz0
  go_wp2_with (at_builtin; refine wpList_on (by rfl) ?_; refine wpList_append_bytes rfl _ _ rfl w.heap.size _ _ _ rfl HOWN1.out (some ⟨wa.heap.size, 0, none⟩) 1 1 [c] rfl HLIT.out rfl (by decide) (fun e => by cases e) (by omega) hsz1 ?_)
  intro v2 wb hown2 hgrow2
  have hb2 : Below w.heap.size w wb := hb1'.grown hgrow2 hsz1 (fun k h => (HOWN1.out.lt k h).1)
  rw [← bytesV_append] at hown2
  obtain ⟨g, cap2, rfl, _, _⟩ := hown2.form (by omega)
  obtain ⟨hBy2, hlen2, hcap2, hmax2, _, _⟩ := Bytes.own hown2 (by
    intro x hx
    rcases List.mem_append.1 hx with hx | hx
    · exact HBY.out.1 x hx
    · simp at hx; omega)
  have hof2 := of_any hlen2 hBy2 hcap2 hmax2
  rw [HLAST.out] at hof2
  have HOF2 := Lib.hid hof2
  clear hof2 hBy2 hlen2 hmax2 hown2 hgrow2
  go_wp2_with fail
  refine HOF2.out.mono ?_
  rintro e wc ⟨rfl, rfl⟩
  have hlit3 : (wb.alloc (.cells #[.int .u8 (c : Int)] 5)).cell? ⟨wb.heap.size, 0, none⟩ = some (.int .u8 (c : Int)) := by simp
  have hmo3 := more_lit (s := S) hlit3 hc (by omega)
  rw [HONE.out] at hmo3
  have HMO3 := Lib.hid hmo3
  clear hlit3 hmo3
  go_wp2_with fail
  refine HMO3.out.mono ?_
  rintro e wd ⟨rfl, rfl⟩
  go_wp2
  go_ret
  exact ⟨rfl, hb2.alloc hb2.size _⟩
end Go.Proofs.Ytgnipdbghnngmaa.sumFronts
