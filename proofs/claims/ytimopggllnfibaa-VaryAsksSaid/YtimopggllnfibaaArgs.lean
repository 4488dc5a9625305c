/-
  Slices that came in, as the walks take them: bytes; numbers without a sign.
-/
import Derived.Test.YtimopggllnfibaaStr
namespace Go.Proofs.Ytimopggllnfibaa
open Go.RowKit

theorem Bytes.below {w w' : World} {A : Option Addr} {bs : List Nat} (h : Bytes w A bs) (hb : Below w.heap.size w w') : Bytes w' A bs := by
  refine ⟨h.1, fun hp => ?_⟩
  obtain ⟨ad, rfl, hc⟩ := h.2 hp
  refine ⟨ad, rfl, fun j hj => ?_⟩
  rw [← hc j hj]
  exact hb.cell (World.block_lt_of_cell? w _ (hc j hj))

theorem Bytes.of_row {w : World} {a : Option Addr} {len cap : Nat} {zs : List Int} (h : IsRow .u8 w a len cap zs) :
    ∃ bs : List Nat, bs.length = len ∧ Bytes w a bs ∧ len ≤ cap ∧ cap ≤ maxLen := by
  rcases h with ⟨rfl, rfl, rfl, rfl⟩ | ⟨x, rfl, h1, h2, h3, hc, hw⟩
  · exact ⟨[], rfl, ⟨by simp, fun hp => absurd hp (by decide)⟩, by decide, by decide⟩
  · refine ⟨(zs.take len).map Int.toNat, by simp; omega, ⟨?_, fun hp => ⟨x, rfl, fun j hj => ?_⟩⟩, h1, h2⟩
    · intro c hcm
      obtain ⟨z, hz, rfl⟩ := List.mem_map.1 hcm
      have := fits_u8 (hw z (List.mem_of_mem_take hz))
      omega
    · have hj' : j < len := by simp at hj; omega
      have hjz : j < zs.length := by omega
      rw [hc j hjz]
      have hm : zs.getD j 0 ∈ zs := by
        have e : zs.getD j 0 = zs[j] := by simp [hjz]
        rw [e]; exact List.getElem_mem hjz
      have := fits_u8 (hw _ hm)
      congr 2
      have e : ((zs.take len).map Int.toNat).getD j 0 = (zs.getD j 0).toNat := by
        simp [hj', hjz]
      rw [e]
      omega

theorem belowN (w : World) (n : Nat) : Below w.heap.size w (w.drewN n) := ⟨rfl, rfl, rfl, Nat.le_refl _, fun _ _ => rfl⟩
theorem conv_of {w w' : World} {A : Option Addr} {bs : List Nat} {k v len cap : Nat} (h : Bytes w A bs) (e : bs.take k = enc v) (hl : bs.length = len) (hk : k ≤ len) (hb : Below w.heap.size w w') :
    (convert 23 9 (.slice A k cap)).run Try.prog w' = .ok (.string (strB (enc v))) w' := by
  rw [← e]
  exact conv_bytes ((h.below hb).take k) k cap (by rw [List.length_take]; omega)
theorem get_z {A : Option Addr} {len cap : Nat} {bs : List Nat} {v k : Nat} {w : World} (hl : bs.length = len) (hB : Bytes w A bs) (hc : len ≤ cap) (hm : cap ≤ maxLen) (hd : dec 0 0 bs = some (v, k)) :
    Calls Try.prog 11 #[.slice A len cap, .int .i64 0] w fun e w' => e = .returned (.tuple #[.int .u64 (v : Int), .int .i64 (k : Int), .int .i64 0]) ∧ w = w' := by
  have := get_some (p := 0) hl hB hc hm (Nat.zero_le _) hd
  rw [Nat.zero_add] at this
  exact this
theorem get_y {A : Option Addr} {len cap : Nat} {bs : List Nat} {w : World} (hl : bs.length = len) (hB : Bytes w A bs) (hc : len ≤ cap) (hm : cap ≤ maxLen) (hd : dec 0 0 bs = none) :
    Calls Try.prog 11 #[.slice A len cap, .int .i64 0] w fun e w' => e = .returned (.tuple #[.int .u64 0, .int .i64 0, .int .i64 2]) ∧ w = w' :=
  get_none (p := 0) hl hB hc hm (Nat.zero_le _) hd
theorem size_nat (n : Nat) (w : World) (h : n < 18446744073709551616) :
    Calls Try.prog 18 #[.int .u64 (n : Int)] w fun e w' => e = .returned (.int .i64 ((enc n).length : Int)) ∧ w = w' := size_any (n : Int) w (by omega) (by omega)
end Go.Proofs.Ytimopggllnfibaa
