/-
  The document's own answers: what each of its calls returns, the world as it was or with new memory alone.
-/
import Derived.Test.YtdpoahjgdndnhaaDoorVKit
namespace Go.Proofs.YtdpoahjgdndnhaaDoor
open Go.RowKit

set_option maxRecDepth 100000 in
theorem refput_any (n : Nat) (w : World) (hn : n < 18446744073709551616) :
    Calls Tryd.prog 40 #[.int .u64 (n : Int)] w fun e w' => e = .returned (.string (strB (enc n))) ∧ Below w.heap.size w w' := by
  obtain ⟨i0, hi, hz0, hz1, hz2⟩ := info_parts Tryd.info5
  go_enter Tryd.func40, Tryd.ntmps40
  go_wp2
  go_loopw [0, 3] (fun s v wr => ∃ (m : Nat) (d : List Nat), s = .int .u64 (m : Int) ∧ m ≤ n ∧ Hid (d ++ enc m = enc n) ∧ wr.ownsRow w.heap.size 5 1 v d.length (bytesV d) ∧ Below w.heap.size w wr)
    (fun s _ _ => (intOf s).toNat)
  case atStart => exact ⟨n, [], rfl, Nat.le_refl _, by exact rfl, World.ownsRow_nil _ _ _ _, Below.refl _ _⟩
  case round =>
    obtain ⟨m, d, rfl, hm, hd, hown, hnx⟩ := hrel
    have hdl := put_len hd.out hn
    have hsz := hnx.size
    by_cases h128 : 128 ≤ m
    · have hb := or128 m
      obtain ⟨c, hc⟩ : ∃ c : Nat, c = m % 128 + 128 := ⟨_, rfl⟩
      rw [← hc] at hb
      have HC := Lib.hid hc
      clear hc
      go_wp2_with (at_builtin; refine wpList_append_own _ rfl _ _ 26 rfl w.heap.size 5 i0 (.int .u8 0) 1 1 Tryd.underlying26 hi hz0 hz1 hz2 rfl (by decide) _ _ _ rfl (hown.alloc _) ⟨wr.heap.size, 0, none⟩ 1 1 [.int .u8 (c : Int)] rfl rfl ?c1 ?c2 ?c3 ?c4 ?c5 ?_)
      case c1 =>
        intro j u hj
        match j, hj with
        | 0, hj => simp at hj; subst hj; simp [Addr.add]
      case c2 => intro u hu; simp at hu; subst hu; rfl
      case c3 => unfold maxLen; omega
      case c4 => omega
      case c5 => simp; omega
      intro v' w1 hown' hgrow _
      clear hb
      go_wp2
      go_roundw
      case rel =>
        refine ⟨m / 128, d ++ [m % 128 + 128], by go_num, by omega, by exact put_step hd.out h128, ?_, ?_⟩
        · rw [HC.out] at hown'
          rw [bytesV_append]
          simpa [bytesV] using hown'
        · exact (hnx.alloc hsz _).grown hgrow (by simp; omega) (fun k h => (hown.lt k h).1)
      case measure => simp [intOf]; omega
    · go_wp2_with (at_builtin; refine wpList_append_own _ rfl _ _ 26 rfl w.heap.size 5 i0 (.int .u8 0) 1 1 Tryd.underlying26 hi hz0 hz1 hz2 rfl (by decide) _ _ _ rfl (hown.alloc _) ⟨wr.heap.size, 0, none⟩ 1 1 [.int .u8 (m : Int)] rfl rfl ?d1 ?d2 ?d3 ?d4 ?d5 ?_)
      case d1 =>
        intro j u hj
        match j, hj with
        | 0, hj => simp at hj; subst hj; simp [Addr.add]
      case d2 => intro u hu; simp at hu; subst hu; rfl
      case d3 => unfold maxLen; omega
      case d4 => omega
      case d5 => simp; omega
      intro v' w1 hown' hgrow hnil
      have hE : d ++ [m] = enc n := by rw [← hd.out, enc_small (by omega)]
      have hB : Below w.heap.size w w1 := (hnx.alloc hsz _).grown hgrow (by simp; omega) (fun k h => (hown.lt k h).1)
      have hL : d.length + 1 = (enc n).length := by rw [← hE]; simp
      rw [show bytesV d ++ [Value.int IntKind.u8 (m : Int)] = bytesV (enc n) by rw [← hE, bytesV_append]; rfl] at hown'
      obtain ⟨g, cap, rfl, _, _⟩ := hown'.form (by omega)
      have hcv := conv_bytes (Bytes.own hown' (enc_byte n)).1 (d.length + 1) cap hL.symm
      clear hE hL hown'
      go_wp2
      go_ret
      exact ⟨rfl, hB⟩
end Go.Proofs.YtdpoahjgdndnhaaDoor
