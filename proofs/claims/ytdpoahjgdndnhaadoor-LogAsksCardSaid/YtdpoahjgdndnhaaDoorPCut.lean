/-
  strings.Cut at one byte: what it returns at every string; nothing is written.
-/
import Derived.Test.YtdpoahjgdndnhaaDoorProg
import Derived.Test.YtdpoahjgdndnhaaDoorPMath
import Derived.WalkKit
import Derived.Lib.Hide
import Derived.Lib.Walk
import Derived.Lib.Bytealg
import Derived.BigCall
import Derived.BigGuard
import Derived.BigQuiet
import Derived.Deep.QuietTactic
import Derived.Deep.DeepCutAuto
import Derived.Deep.LoopGhost
import Derived.Laws.Strings3
namespace Go.Proofs.YtdpoahjgdndnhaaDoor
open Go.RowKit

/-- Bytes as a string. -/
def str (l : List UInt8) : Value := .string ⟨l.toArray⟩

theorem indexByte_cut (c : UInt8) : ∀ l, Lib.indexByte l c = if (cut1 c l).2.2 then ((cut1 c l).1.length : Int) else -1
  | [] => by simp [cut1, Lib.indexByte]
  | x :: r => by
    have ih := indexByte_cut c r
    by_cases h : x = c
    · simp [cut1, Lib.indexByte, h]
    · have hb : (x == c) = false := by simpa using h
      simp only [cut1, if_neg h, Lib.indexByte, hb]
      rw [ih]
      cases (cut1 c r).2.2
      · simp
      · have : ((cut1 c r).1.length : Int) ≠ -1 := by omega
        simp [this]
theorem cut1_some (c : UInt8) : ∀ l, (cut1 c l).2.2 = true → (cut1 c l).1 = l.take (cut1 c l).1.length ∧ (cut1 c l).2.1 = l.drop ((cut1 c l).1.length + 1) ∧ (cut1 c l).1.length < l.length
  | [] => by simp [cut1]
  | x :: r => by
    have ih := cut1_some c r
    by_cases h : x = c
    · simp [cut1, h]
    · simp only [cut1, if_neg h]
      intro hf
      obtain ⟨h1, h2, h3⟩ := ih hf
      refine ⟨?_, ?_, ?_⟩
      · rw [List.length_cons, List.take_succ_cons, ← h1]
      · rw [List.length_cons, List.drop_succ_cons, ← h2]
      · simp only [List.length_cons]; omega

set_option maxRecDepth 100000 in
theorem indexByte_any (s : ByteArray) (c : Int) (w : World) :
    Calls Tryd.prog 112 #[.string s, .int .u8 c] w fun e w' => e = .returned (.int .i64 (Lib.indexByte s.data.toList c.toNat.toUInt8)) ∧ w = w' := by
  go_enter Tryd.func112, Tryd.ntmps112
  go_wp2
  rw [run_callFunc_extern Tryd.func121 (by kernel_rfl) (by kernel_rfl) (by kernel_rfl) (e := Extern.BytealgIndexByte.indexByte) (by kernel_rfl), Lib.run_indexByteString]
  simp only [Result.andThen]
  rw [Oper.upon_value]
  go_wp2
  go_ret
  exact ⟨rfl, rfl⟩
set_option maxRecDepth 100000 in
set_option maxHeartbeats 2000000 in
theorem index_one (s : ByteArray) (c : UInt8) (w : World) :
    Calls Tryd.prog 102 #[.string s, .string ⟨#[c]⟩] w fun e w' => e = .returned (.int .i64 (Lib.indexByte s.data.toList c)) ∧ w = w' := by
  go_enter Tryd.func102, Tryd.ntmps102
  go_wp2_with (go_at_call 112; refine (indexByte_any _ _ _).mono ?_; rintro e w' ⟨rfl, rfl⟩)
  · have h : ([c] == s.toList) = true := by assumption
    go_ret
    refine ⟨?_, rfl⟩
    have e : s.data.toList = [c] := by rw [← Lib.toList_data]; exact (beq_iff_eq.1 h).symm
    rw [e]
    simp [Lib.indexByte]
  · go_ret
    exact ⟨rfl, rfl⟩

set_option maxRecDepth 100000 in
set_option maxHeartbeats 2000000 in
theorem cutLite_any (l : List UInt8) (c : UInt8) (w : World) (hl : l.length < 4611686018427387904) :
    Calls Tryd.prog 94 #[str l, .string ⟨#[c]⟩] w fun e w' => e = .returned (.tuple #[str (cut1 c l).1, str (cut1 c l).2.1, .bool (cut1 c l).2.2]) ∧ ∃ n, w' = w.drewN n := by
  have hix := indexByte_cut c l
  cases hf : (cut1 c l).2.2 with
  | false =>
    obtain ⟨e1, e2⟩ := cut1_none c l hf
    rw [e1, e2]
    rw [hf] at hix
    unfold str
    have M := fun w => index_one ⟨l.toArray⟩ c w
    simp only [hix] at M
    clear e1 e2 hix hf
    go_enter Tryd.func94, Tryd.ntmps94
    go_wp2_with (go_at_call 102; refine (M _).mono ?_; rintro e w' ⟨rfl, rfl⟩)
    go_ret3
    exact ⟨rfl, 0, rfl⟩
  | true =>
    obtain ⟨e1, e2, e3⟩ := cut1_some c l hf
    rw [e2]
    rw [hf] at hix
    unfold str
    generalize (cut1 c l).1.length = i at *
    rw [e1]
    have E1 : Hid ((⟨(l.take i).toArray⟩ : ByteArray) = (⟨l.toArray⟩ : ByteArray).extract 0 i) := Lib.hid (by rw [Lib.extract_eq]; simp)
    have E2 : Hid ((⟨(l.drop (i + 1)).toArray⟩ : ByteArray) = (⟨l.toArray⟩ : ByteArray).extract (i + 1) l.length) := Lib.hid (by
      rw [Lib.extract_eq]
      congr 2
      exact (List.take_of_length_le (by simp)).symm)
    rw [E1.out, E2.out]
    clear E1 E2
    have M := fun w => index_one ⟨l.toArray⟩ c w
    simp only [hix] at M
    clear e1 e2 hix hf
    have hs : (ByteArray.mk l.toArray).size = l.length := by simp [ByteArray.size]
    rw [← hs]
    have e3' : i < (ByteArray.mk l.toArray).size := by omega
    have hw : IntKind.i64.wrap ((i : Int) + 1) = (i : Int) + 1 := by rw [IntKind.wrap_i64]; omega
    have ht : ((i : Int) + 1).toNat = i + 1 := by omega
    clear hs hl e3
    generalize ByteArray.mk l.toArray = s at *
    have c1 : (0 : Int) ≤ ↑i := by omega
    have c2 : (↑i : Int) ≤ ↑s.size := by omega
    have c3 : (0 : Int) ≤ ↑i + 1 := by omega
    have c4 : (↑i + 1 : Int) ≤ ↑s.size := by omega
    go_enter Tryd.func94, Tryd.ntmps94
    go_wp2_with (go_at_call 102; refine (M _).mono ?_; rintro e w' ⟨rfl, rfl⟩)
    go_region
    go_wp2
    go_ret3
    exact ⟨rfl, 1, rfl⟩

set_option maxRecDepth 100000 in
theorem cut_any (l : List UInt8) (c : UInt8) (w : World) (hl : l.length < 4611686018427387904) :
    Calls Tryd.prog 81 #[str l, .string ⟨#[c]⟩] w fun e w' => e = .returned (.tuple #[str (cut1 c l).1, str (cut1 c l).2.1, .bool (cut1 c l).2.2]) ∧ ∃ n, w' = w.drewN n := by
  have M := Lib.hid (fun w => cutLite_any l c w hl)
  unfold str at *
  generalize (⟨l.toArray⟩ : ByteArray) = s at *
  generalize (⟨(cut1 c l).1.toArray⟩ : ByteArray) = s1 at *
  generalize (⟨(cut1 c l).2.1.toArray⟩ : ByteArray) = s2 at *
  generalize (cut1 c l).2.2 = b at *
  go_enter Tryd.func81, Tryd.ntmps81
  go_wp2_with (go_at_call 94; refine (M.out _).mono ?_; rintro e w' ⟨rfl, n, rfl⟩)
  go_ret3
  exact ⟨rfl, n, rfl⟩
end Go.Proofs.YtdpoahjgdndnhaaDoor
