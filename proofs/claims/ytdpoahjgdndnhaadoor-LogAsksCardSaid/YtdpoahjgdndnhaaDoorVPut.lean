/-
  Put: it returns the number's bytes in a row of its own, and writes nothing that was there.
-/
import Derived.Test.YtdpoahjgdndnhaaDoorVZig
import Derived.Deep.AppendLies
namespace Go.Proofs.YtdpoahjgdndnhaaDoor
open Go.RowKit

theorem Tryd.info5 : (Tryd.prog.info? 5).map (fun i => (i.zero, i.size, i.bytes)) = some (some (.int .u8 0), 1, 1) := by kernel_rfl

/-- A row of bytes as cells. -/
def bytesV (l : List Nat) : List Value := l.map fun c : Nat => Value.int .u8 (c : Int)
theorem bytesV_append (a b : List Nat) : bytesV (a ++ b) = bytesV a ++ bytesV b := by simp [bytesV]
theorem bytesV_length (a : List Nat) : (bytesV a).length = a.length := by simp [bytesV]

def PutPost (n : Nat) (w : World) (e : Ending) (w' : World) : Prop :=
  ∃ g cap, e = .returned (.slice (some ⟨g, 0, none⟩) (enc n).length cap) ∧
    w'.ownsRow w.heap.size 5 1 (.slice (some ⟨g, 0, none⟩) (enc n).length cap) (enc n).length (bytesV (enc n)) ∧ Below w.heap.size w w'

theorem or128 (m : Nat) : bits .or .u8 ((m : Int) % 256) 128 = ((m % 128 + 128 : Nat) : Int) := by
  have e : (m : Int) % 256 = ((m % 256 : Nat) : Int) := by omega
  have d : ∀ x : Fin 256, x.val ||| 128 = x.val % 128 + 128 := by decide +kernel
  rw [e]
  have := u8_or_nat (m % 256) 128 (by omega) (by omega)
  rw [show ((128 : Nat) : Int) = 128 from rfl] at this
  rw [this, d ⟨m % 256, by omega⟩]
  simp only
  omega

theorem put_step {d : List Nat} {m n : Nat} (h : d ++ enc m = enc n) (hm : 128 ≤ m) : (d ++ [m % 128 + 128]) ++ enc (m / 128) = enc n := by
  rw [← h, enc_big hm]; simp
theorem put_len {d : List Nat} {m n : Nat} (h : d ++ enc m = enc n) (hn : n < 18446744073709551616) : d.length + 1 ≤ 10 := by
  have h1 := enc_len_le hn
  have h2 := enc_ne m
  rw [← h, List.length_append] at h1
  omega

set_option maxRecDepth 100000 in
theorem put_any (n : Nat) (w : World) (hn : n < 18446744073709551616) : Calls Tryd.prog 64 #[.int .u64 (n : Int)] w (PutPost n w) := by
  obtain ⟨i0, hi, hz0, hz1, hz2⟩ := info_parts Tryd.info5
  have hl := enc_len_le hn
  go_enter Tryd.func64, Tryd.ntmps64
  go_wp2_with (first
    | (go_at_call 80; refine (size_any (n : Int) _ (by omega) (by omega)).mono ?_; rintro e w' ⟨rfl, rfl⟩)
    | (at_make; refine wpList_make_own _ rfl _ _ 26 rfl w.heap.size 5 i0 (.int .u8 0) 1 Tryd.underlying26 hi hz0 hz1 _ _ _ (enc n).length rfl rfl (by simp) ?b2 ?b3 (Nat.le_refl _) ?_))
  case b2 => rw [hz2]; omega
  case b3 => unfold maxLen; omega
  intro w0 hown0 hgrow0
  go_wp2
  go_loopw [0, 3] (fun s v wr => ∃ (m : Nat) (d : List Nat), s = .int .u64 (m : Int) ∧ m ≤ n ∧ Hid (d ++ enc m = enc n) ∧ wr.ownsRow w.heap.size 5 1 v d.length (bytesV d) ∧ Below w.heap.size w wr)
    (fun s _ _ => (intOf s).toNat)
  case atStart => exact ⟨n, [], rfl, Nat.le_refl _, by exact rfl, hown0, (Below.refl _ _).grown hgrow0 (Nat.le_refl _) (fun k h => by cases h)⟩
  case round =>
    obtain ⟨m, d, rfl, hm, hd, hown, hnx⟩ := hrel
    have hdl := put_len hd.out hn
    have hsz := hnx.size
    clear hown0 hgrow0
    by_cases h128 : 128 ≤ m
    · have hb := or128 m
      obtain ⟨c, hc⟩ : ∃ c : Nat, c = m % 128 + 128 := ⟨_, rfl⟩
      rw [← hc] at hb
      have HC := Lib.hid hc
      clear hc
      go_wp2_with (at_builtin; refine wpList_append_own _ rfl _ _ 26 rfl w.heap.size 5 i0 (.int .u8 0) 1 1 Tryd.underlying26 hi hz0 hz1 hz2 rfl (by decide) _ _ _ rfl (hown.alloc _) ⟨wr.heap.size, 0, none⟩ 1 1 [.int .u8 (c : Int)] rfl rfl ?c1 ?c2 ?c3 ?c4 ?c5 ?_)
      case c1 =>
        intro j u hj
        match j, hj with
        | 0, hj => simp at hj; subst hj; simp [Addr.add]
      case c2 => intro u hu; simp at hu; subst hu; rfl
      case c3 => unfold maxLen; omega
      case c4 => omega
      case c5 => simp; omega
      intro v' w1 hown' hgrow _
      clear hb
      go_wp2
      go_roundw
      case rel =>
        refine ⟨m / 128, d ++ [m % 128 + 128], by go_num, by omega, by exact put_step hd.out h128, ?_, ?_⟩
        · rw [HC.out] at hown'
          rw [bytesV_append]
          simpa [bytesV] using hown'
        · exact (hnx.alloc hsz _).grown hgrow (by simp; omega) (fun k h => (hown.lt k h).1)
      case measure => simp [intOf]; omega
    · go_wp2_with (at_builtin; refine wpList_append_own _ rfl _ _ 26 rfl w.heap.size 5 i0 (.int .u8 0) 1 1 Tryd.underlying26 hi hz0 hz1 hz2 rfl (by decide) _ _ _ rfl (hown.alloc _) ⟨wr.heap.size, 0, none⟩ 1 1 [.int .u8 (m : Int)] rfl rfl ?d1 ?d2 ?d3 ?d4 ?d5 ?_)
      case d1 =>
        intro j u hj
        match j, hj with
        | 0, hj => simp at hj; subst hj; simp [Addr.add]
      case d2 => intro u hu; simp at hu; subst hu; rfl
      case d3 => unfold maxLen; omega
      case d4 => omega
      case d5 => simp; omega
      intro v' w1 hown' hgrow hnil
      go_wp2
      go_ret
      have hE : d ++ [m] = enc n := by rw [← hd.out, enc_small (by omega)]
      have hB : Below w.heap.size w w1 := (hnx.alloc hsz _).grown hgrow (by simp; omega) (fun k h => (hown.lt k h).1)
      have hL : d.length + 1 = (enc n).length := by rw [← hE]; simp
      rw [show bytesV d ++ [Value.int IntKind.u8 (m : Int)] = bytesV (enc n) by rw [← hE, bytesV_append]; rfl, hL] at hown'
      obtain ⟨g, cap, rfl, _, _⟩ := hown'.form (enc_ne n)
      exact ⟨g, cap, rfl, hown', hB⟩
end Go.Proofs.YtdpoahjgdndnhaaDoor
