/-
  The walk of PolicyLines: it returns true, and writes nothing that was there.
-/
import Derived.Test.YtdiipbichlbmgaaDoorPTold
namespace Go.Proofs.YtdiipbichlbmgaaDoor.policyLines
open Go.RowKit
set_option linter.unusedVariables false

theorem wrap_u64_rem {a : Int} (m : Int) (hm : 0 < m) : ∃ x : Nat, (IntKind.u64.wrap a).tmod m = (x : Int) ∧ (x : Int) < m := by
  have h0 : 0 ≤ IntKind.u64.wrap a := by rw [IntKind.wrap_u64]; omega
  have h1 := Int.tmod_nonneg m h0
  have h2 := Int.tmod_lt_of_pos (IntKind.u64.wrap a) hm
  exact ⟨((IntKind.u64.wrap a).tmod m).toNat, by omega, by omega⟩
theorem ba_app (a b : List UInt8) : (⟨a.toArray⟩ ++ ⟨b.toArray⟩ : ByteArray) = ⟨(a ++ b).toArray⟩ := by
  apply ByteArray.ext
  simp

def lineAt : Nat → List UInt8
  | 0 => [107, 101, 101, 112, 32, 114, 97, 119, 32, 55]
  | 1 => [32, 32, 115, 101, 97, 108, 32, 32, 32, 57, 32]
  | 2 => [35, 32, 107, 101, 101, 112, 32, 114, 97, 119, 32, 120]
  | 3 => [115, 112, 97, 110, 32, 51, 35, 32, 57]
  | _ => []
def wrong : List UInt8 := [107, 101, 101, 112, 32, 53, 109, 32, 120, 10]
def s1 : Nat → List UInt8
  | 0 => []
  | i + 1 => s1 i ++ [10]
def t1 : Nat → List UInt8
  | 0 => []
  | i + 1 => t1 i ++ [32, 10]
def s2 (n : Nat) : Nat → List UInt8
  | 0 => s1 n
  | i + 1 => s2 n i ++ lineAt i ++ [10]
def t2 (n k : Nat) : Nat → List UInt8
  | 0 => t1 n
  | i + 1 => (if i = k then t2 n k i ++ wrong else t2 n k i) ++ lineAt i ++ [10]
def t3 (n k : Nat) : List UInt8 := if k = 5 then t2 n k 5 ++ wrong else t2 n k 5
theorem s1_len : ∀ i, (s1 i).length ≤ i
  | 0 => by simp [s1]
  | i + 1 => by have := s1_len i; simp [s1]; omega
theorem t1_len : ∀ i, (t1 i).length ≤ 2 * i
  | 0 => by simp [t1]
  | i + 1 => by have := t1_len i; simp [t1]; omega
theorem lineAt_len (i : Nat) : (lineAt i).length ≤ 12 := by unfold lineAt; split <;> decide
theorem s2_len (n : Nat) : ∀ i, (s2 n i).length ≤ n + 13 * i
  | 0 => by simpa [s2] using s1_len n
  | i + 1 => by
    have := s2_len n i
    have := lineAt_len i
    simp only [s2, List.length_append, List.length_cons, List.length_nil]
    omega
theorem t2_len (n k : Nat) : ∀ i, (t2 n k i).length ≤ 2 * n + 23 * i
  | 0 => by simpa [t2] using t1_len n
  | i + 1 => by
    have := t2_len n k i
    have := lineAt_len i
    simp only [t2, List.length_append, List.length_cons, List.length_nil]
    split
    · simp only [wrong, List.length_append, List.length_cons, List.length_nil]; omega
    · omega
theorem says_s {n : Nat} (hn : n < 4) : parse (s2 n 5) = (⟨7, 600, 6000, 0, 9, 3⟩, 0, 0) := by
  match n, hn with
  | 0, _ | 1, _ | 2, _ | 3, _ => decide +kernel
theorem says_t {n k : Nat} (hn : n < 4) (hk : k < 6) : parse (t3 n k) = (Pol.zero, 4, (n : Int) + (k : Int) + 1) := by
  match n, hn, k, hk with
  | 0, _, 0, _ | 0, _, 1, _ | 0, _, 2, _ | 0, _, 3, _ | 0, _, 4, _ | 0, _, 5, _ => decide +kernel
  | 1, _, 0, _ | 1, _, 1, _ | 1, _, 2, _ | 1, _, 3, _ | 1, _, 4, _ | 1, _, 5, _ => decide +kernel
  | 2, _, 0, _ | 2, _, 1, _ | 2, _, 2, _ | 2, _, 3, _ | 2, _, 4, _ | 2, _, 5, _ => decide +kernel
  | 3, _, 0, _ | 3, _, 1, _ | 3, _, 2, _ | 3, _, 3, _ | 3, _, 4, _ | 3, _, 5, _ => decide +kernel
theorem len_s {n : Nat} (hn : n < 4) : (s2 n 5).length < 4611686018427387900 := by
  match n, hn with
  | 0, _ | 1, _ | 2, _ | 3, _ => decide +kernel
theorem len_t {n k : Nat} (hn : n < 4) (hk : k < 6) : (t3 n k).length < 4611686018427387900 := by
  match n, hn, k, hk with
  | 0, _, 0, _ | 0, _, 1, _ | 0, _, 2, _ | 0, _, 3, _ | 0, _, 4, _ | 0, _, 5, _ => decide +kernel
  | 1, _, 0, _ | 1, _, 1, _ | 1, _, 2, _ | 1, _, 3, _ | 1, _, 4, _ | 1, _, 5, _ => decide +kernel
  | 2, _, 0, _ | 2, _, 1, _ | 2, _, 2, _ | 2, _, 3, _ | 2, _, 4, _ | 2, _, 5, _ => decide +kernel
  | 3, _, 0, _ | 3, _, 1, _ | 3, _, 2, _ | 3, _, 3, _ | 3, _, 4, _ | 3, _, 5, _ => decide +kernel

set_option maxRecDepth 100000 in
set_option maxHeartbeats 1000000 in
theorem walk (a0 a1 : Int) (w : World) (w0 : (Lit.int .i64 a0).wf = true) (w1 : (Lit.int .i64 a1).wf = true) (hw : Nam w) (hT : Pow w) (hn : 0 < w.heap.size) :
    Calls Tryd.prog 6 #[.int .i64 a0, .int .i64 a1] w fun e w' => e = .returned (.bool true) ∧ Below w.heap.size w w' := by
  obtain ⟨k, hk, hk1⟩ := wrap_u64_rem (a := a0) 6 (by decide)
  obtain ⟨n, hn', hn1⟩ := wrap_u64_rem (a := a1) 4 (by decide)
  have HE : Hid (TEnv w w) := Lib.hid ⟨hw, hT, hn, Below.refl _ _⟩
  clear hw hT hn w0 w1
  go_enter Tryd.func6, Tryd.ntmps6
  have HW : Hid (TEnv w (w.alloc (.cells #[.string ⟨#[107, 101, 101, 112, 32, 114, 97, 119, 32, 55]⟩, .string ⟨#[32, 32, 115, 101, 97, 108, 32, 32, 32, 57, 32]⟩, .string ⟨#[35, 32, 107, 101, 101, 112, 32, 114, 97, 119, 32, 120]⟩, .string ⟨#[115, 112, 97, 110, 32, 51, 35, 32, 57]⟩, .string ⟨#[]⟩] 9)) ∧ ∀ i, i < 5 → (w.alloc (.cells #[.string ⟨#[107, 101, 101, 112, 32, 114, 97, 119, 32, 55]⟩, .string ⟨#[32, 32, 115, 101, 97, 108, 32, 32, 32, 57, 32]⟩, .string ⟨#[35, 32, 107, 101, 101, 112, 32, 114, 97, 119, 32, 120]⟩, .string ⟨#[115, 112, 97, 110, 32, 51, 35, 32, 57]⟩, .string ⟨#[]⟩] 9)).cell? ⟨w.heap.size, i, none⟩ = some (.string ⟨(lineAt i).toArray⟩)) := Lib.hid ⟨HE.out.alloc _, fun i hi => by
    match i, hi with
    | 0, _ | 1, _ | 2, _ | 3, _ | 4, _ => simp [lineAt]⟩
  have HK : Hid (k < 6 ∧ n < 4) := Lib.hid (by omega)
  go_wp2
  generalize (w.alloc (.cells #[.string ⟨#[107, 101, 101, 112, 32, 114, 97, 119, 32, 55]⟩, .string ⟨#[32, 32, 115, 101, 97, 108, 32, 32, 32, 57, 32]⟩, .string ⟨#[35, 32, 107, 101, 101, 112, 32, 114, 97, 119, 32, 120]⟩, .string ⟨#[115, 112, 97, 110, 32, 51, 35, 32, 57]⟩, .string ⟨#[]⟩] 9)) = ws at *
  generalize w.heap.size = g at *
  clear hk hn' HE
  go_loopw [8, 9, 10] (fun ss st si wr => ∃ (i : Nat) (S T : ByteArray), i ≤ n ∧ ss = .string S ∧ st = .string T ∧ si = .int .i64 (i : Int) ∧ Hid (S = ⟨(s1 i).toArray⟩ ∧ T = ⟨(t1 i).toArray⟩) ∧ ws = wr) (fun _ _ si _ => n - (intOf si).toNat)
  case atStart => exact ⟨0, _, _, by omega, rfl, rfl, rfl, Lib.hid ⟨rfl, rfl⟩, rfl⟩
  case round =>
    obtain ⟨i, S, T, hi, rfl, rfl, rfl, HS, rfl⟩ := hrel
    have hS : S.size ≤ 500 := by rw [HS.out.1, ba_size]; have := s1_len i; have := HK.out; omega
    have hTT : T.size ≤ 500 := by rw [HS.out.2, ba_size]; have := t1_len i; have := HK.out; omega
    by_cases hlt : i < n
    · have HN : Hid (S ++ ⟨#[10]⟩ = ⟨(s1 (i + 1)).toArray⟩ ∧ T ++ ⟨#[32, 10]⟩ = ⟨(t1 (i + 1)).toArray⟩) := Lib.hid (by
        rw [HS.out.1, HS.out.2]
        exact ⟨ba_app _ _, ba_app _ _⟩)
      go_wp2
      go_roundw
      case rel => exact ⟨i + 1, _, _, by omega, rfl, rfl, by go_num, HN, trivial⟩
      case measure => simp [intOf]; omega
    · obtain rfl : i = n := by omega
      have HN : Hid (S = ⟨(s2 i 0).toArray⟩ ∧ T = ⟨(t2 i k 0).toArray⟩) := Lib.hid HS.out
      clear HS hlt hi
      go_wp2
      go_loopw [8, 9, 11] (fun ss st sj wr => ∃ (j : Nat) (S T : ByteArray), j ≤ 5 ∧ ss = .string S ∧ st = .string T ∧ sj = .int .i64 (j : Int) ∧ Hid (S = ⟨(s2 i j).toArray⟩ ∧ T = ⟨(t2 i k j).toArray⟩) ∧ ws = wr) (fun _ _ sj _ => 5 - (intOf sj).toNat)
      case atStart => exact ⟨0, S, T, by omega, rfl, rfl, rfl, HN, rfl⟩
      case round =>
        clear HN hS hTT
        obtain ⟨j, S, T, hj, rfl, rfl, rfl, HS, rfl⟩ := hrel
        have hS : S.size ≤ 500 := by rw [HS.out.1, ba_size]; have := s2_len i j; have := HK.out; omega
        have hTT : T.size ≤ 500 := by rw [HS.out.2, ba_size]; have := t2_len i k j; have := HK.out; omega
        by_cases hlt : j < 5
        · have cj := HW.out.2 j hlt
          have hll : (⟨(lineAt j).toArray⟩ : ByteArray).size ≤ 12 := by rw [ba_size]; exact lineAt_len j
          have HS1 : Hid (S ++ ⟨(lineAt j).toArray⟩ ++ ⟨#[10]⟩ = ⟨(s2 i (j + 1)).toArray⟩) := Lib.hid (by
            rw [HS.out.1, ba_app]
            exact ba_app _ [10])
          have hj0 : (0 : Int) ≤ (j : Int) := by omega
          have hj5 : (j : Int) < 5 := by omega
          by_cases hjk : j = k
          · have hb : ((j : Int) == (k : Int)) = true := by simp [hjk]
            have HT1 : Hid (T ++ ⟨#[107, 101, 101, 112, 32, 53, 109, 32, 120, 10]⟩ ++ ⟨(lineAt j).toArray⟩ ++ ⟨#[10]⟩ = ⟨(t2 i k (j + 1)).toArray⟩) := Lib.hid (by
              rw [HS.out.2, show (⟨#[107, 101, 101, 112, 32, 53, 109, 32, 120, 10]⟩ : ByteArray) = ⟨wrong.toArray⟩ from rfl, show (⟨#[10]⟩ : ByteArray) = ⟨[10].toArray⟩ from rfl, ba_app, ba_app, ba_app, t2, if_pos hjk])
            clear hjk HS
            generalize (⟨(lineAt j).toArray⟩ : ByteArray) = L at *
            go_wp2
            go_roundw
            case rel => exact ⟨j + 1, _, _, by omega, rfl, rfl, by go_num, Lib.hid ⟨HS1.out, HT1.out⟩, trivial⟩
            case measure => simp [intOf]; omega
          · have hb : ((j : Int) == (k : Int)) = false := by simp; omega
            have HT1 : Hid (T ++ ⟨(lineAt j).toArray⟩ ++ ⟨#[10]⟩ = ⟨(t2 i k (j + 1)).toArray⟩) := Lib.hid (by
              rw [HS.out.2, show (⟨#[10]⟩ : ByteArray) = ⟨[10].toArray⟩ from rfl, ba_app, ba_app, t2, if_neg hjk])
            clear hjk HS
            generalize (⟨(lineAt j).toArray⟩ : ByteArray) = L at *
            go_wp2
            go_roundw
            case rel => exact ⟨j + 1, _, _, by omega, rfl, rfl, by go_num, Lib.hid ⟨HS1.out, HT1.out⟩, trivial⟩
            case measure => simp [intOf]; omega
        · obtain rfl : j = 5 := by omega
          clear hlt hj
          by_cases hk5 : k = 5
          · have hb : ((k : Int) == 5) = true := by simp [hk5]
            have N2 : Hid (∀ wr, TEnv w wr → Calls Tryd.prog 11 #[.string (T ++ ⟨#[107, 101, 101, 112, 32, 53, 109, 32, 120, 10]⟩)] wr fun e w' => e = .returned (.tuple #[.agg #[.int .i64 0, .int .i64 0, .int .i64 0, .int .i64 0, .int .i64 0, .int .i64 0], .int .i64 4, .int .i64 ((i : Int) + (k : Int) + 1)]) ∧ Below wr.heap.size wr w') := Lib.hid (fun wr hE => by
              rw [show (T ++ ⟨#[107, 101, 101, 112, 32, 53, 109, 32, 120, 10]⟩) = ⟨(t3 i k).toArray⟩ from by rw [HS.out.2, t3, if_pos hk5]; exact ba_app _ wrong]
              exact parse_is (says_t HK.out.2 HK.out.1) (len_t HK.out.2 HK.out.1) hE)
            clear hk5
            have N1 : Hid (∀ wr, TEnv w wr → Calls Tryd.prog 11 #[.string S] wr fun e w' => e = .returned (.tuple #[.agg #[.int .i64 7, .int .i64 600, .int .i64 6000, .int .i64 0, .int .i64 9, .int .i64 3], .int .i64 0, .int .i64 0]) ∧ Below wr.heap.size wr w') := Lib.hid (fun wr hE => by
              rw [HS.out.1]
              exact parse_is (says_s HK.out.2) (len_s HK.out.2) hE)
            clear HS
            go_wp2_with fail
            refine (N1.out _ HW.out.1).mono ?_
            rintro e w5 ⟨rfl, hb5⟩
            have HI5 : Hid (TEnv w (w5.alloc (.cells #[.int .i64 7, .int .i64 600, .int .i64 6000, .int .i64 0, .int .i64 9, .int .i64 3] 25)) ∧ PHold (w5.alloc (.cells #[.int .i64 7, .int .i64 600, .int .i64 6000, .int .i64 0, .int .i64 9, .int .i64 3] 25)) w5.heap.size ⟨7, 600, 6000, 0, 9, 3⟩ ∧ w5.heap.size < (w5.alloc (.cells #[.int .i64 7, .int .i64 600, .int .i64 6000, .int .i64 0, .int .i64 9, .int .i64 3] 25)).heap.size) := Lib.hid ⟨HW.out.1.on (past_alloc hb5 _), by unfold PHold; simp, by simp⟩
            clear hb5 N1
            go_wp2_with fail
            generalize (w5.alloc (.cells #[.int .i64 7, .int .i64 600, .int .i64 6000, .int .i64 0, .int .i64 9, .int .i64 3] 25)) = w6 at *
            generalize w5.heap.size = g12 at *
            refine (N2.out _ HI5.out.1).mono ?_
            rintro e w7 ⟨rfl, hb7⟩
            have HI7 : Hid (TEnv w (w7.alloc (.cells #[.int .i64 0, .int .i64 0, .int .i64 0, .int .i64 0, .int .i64 0, .int .i64 0] 25)) ∧ PHold (w7.alloc (.cells #[.int .i64 0, .int .i64 0, .int .i64 0, .int .i64 0, .int .i64 0, .int .i64 0] 25)) g12 ⟨7, 600, 6000, 0, 9, 3⟩ ∧ g12 < (w7.alloc (.cells #[.int .i64 0, .int .i64 0, .int .i64 0, .int .i64 0, .int .i64 0, .int .i64 0] 25)).heap.size) := Lib.hid (by
              have hba := past_alloc hb7 (.cells #[.int .i64 0, .int .i64 0, .int .i64 0, .int .i64 0, .int .i64 0, .int .i64 0] 25)
              exact ⟨HI5.out.1.on hba, HI5.out.2.1.below HI5.out.2.2 hba, Nat.lt_of_lt_of_le HI5.out.2.2 hba.size⟩)
            clear hb7 N2 HI5
            go_wp2_with fail
            generalize (w7.alloc (.cells #[.int .i64 0, .int .i64 0, .int .i64 0, .int .i64 0, .int .i64 0, .int .i64 0] 25)) = w8 at *
            refine (told_any _ HI7.out.1.nam HI7.out.1.pow HI7.out.1.pos).mono ?_
            rintro e w9 ⟨rfl, hb9⟩
            have HI9 : Hid (Below w.heap.size w w9) := Lib.hid (past HI7.out.1.below hb9)
            obtain ⟨c0, c1, c2, c3, c4, c5⟩ := HI7.out.2.1.below HI7.out.2.2 hb9
            simp only at c0 c1 c2 c3 c4 c5
            clear hb9 HI7
            go_wp2
            (try rw [Exit.noGoto_ret])
            go_ret
            exact ⟨rfl, HI9.out⟩
          · have hb : ((k : Int) == 5) = false := by simp; omega
            have N2 : Hid (∀ wr, TEnv w wr → Calls Tryd.prog 11 #[.string T] wr fun e w' => e = .returned (.tuple #[.agg #[.int .i64 0, .int .i64 0, .int .i64 0, .int .i64 0, .int .i64 0, .int .i64 0], .int .i64 4, .int .i64 ((i : Int) + (k : Int) + 1)]) ∧ Below wr.heap.size wr w') := Lib.hid (fun wr hE => by
              rw [show T = ⟨(t3 i k).toArray⟩ from by rw [HS.out.2, t3, if_neg hk5]]
              exact parse_is (says_t HK.out.2 HK.out.1) (len_t HK.out.2 HK.out.1) hE)
            clear hk5
            have N1 : Hid (∀ wr, TEnv w wr → Calls Tryd.prog 11 #[.string S] wr fun e w' => e = .returned (.tuple #[.agg #[.int .i64 7, .int .i64 600, .int .i64 6000, .int .i64 0, .int .i64 9, .int .i64 3], .int .i64 0, .int .i64 0]) ∧ Below wr.heap.size wr w') := Lib.hid (fun wr hE => by
              rw [HS.out.1]
              exact parse_is (says_s HK.out.2) (len_s HK.out.2) hE)
            clear HS
            go_wp2_with fail
            refine (N1.out _ HW.out.1).mono ?_
            rintro e w5 ⟨rfl, hb5⟩
            have HI5 : Hid (TEnv w (w5.alloc (.cells #[.int .i64 7, .int .i64 600, .int .i64 6000, .int .i64 0, .int .i64 9, .int .i64 3] 25)) ∧ PHold (w5.alloc (.cells #[.int .i64 7, .int .i64 600, .int .i64 6000, .int .i64 0, .int .i64 9, .int .i64 3] 25)) w5.heap.size ⟨7, 600, 6000, 0, 9, 3⟩ ∧ w5.heap.size < (w5.alloc (.cells #[.int .i64 7, .int .i64 600, .int .i64 6000, .int .i64 0, .int .i64 9, .int .i64 3] 25)).heap.size) := Lib.hid ⟨HW.out.1.on (past_alloc hb5 _), by unfold PHold; simp, by simp⟩
            clear hb5 N1
            go_wp2_with fail
            generalize (w5.alloc (.cells #[.int .i64 7, .int .i64 600, .int .i64 6000, .int .i64 0, .int .i64 9, .int .i64 3] 25)) = w6 at *
            generalize w5.heap.size = g12 at *
            refine (N2.out _ HI5.out.1).mono ?_
            rintro e w7 ⟨rfl, hb7⟩
            have HI7 : Hid (TEnv w (w7.alloc (.cells #[.int .i64 0, .int .i64 0, .int .i64 0, .int .i64 0, .int .i64 0, .int .i64 0] 25)) ∧ PHold (w7.alloc (.cells #[.int .i64 0, .int .i64 0, .int .i64 0, .int .i64 0, .int .i64 0, .int .i64 0] 25)) g12 ⟨7, 600, 6000, 0, 9, 3⟩ ∧ g12 < (w7.alloc (.cells #[.int .i64 0, .int .i64 0, .int .i64 0, .int .i64 0, .int .i64 0, .int .i64 0] 25)).heap.size) := Lib.hid (by
              have hba := past_alloc hb7 (.cells #[.int .i64 0, .int .i64 0, .int .i64 0, .int .i64 0, .int .i64 0, .int .i64 0] 25)
              exact ⟨HI5.out.1.on hba, HI5.out.2.1.below HI5.out.2.2 hba, Nat.lt_of_lt_of_le HI5.out.2.2 hba.size⟩)
            clear hb7 N2 HI5
            go_wp2_with fail
            generalize (w7.alloc (.cells #[.int .i64 0, .int .i64 0, .int .i64 0, .int .i64 0, .int .i64 0, .int .i64 0] 25)) = w8 at *
            refine (told_any _ HI7.out.1.nam HI7.out.1.pow HI7.out.1.pos).mono ?_
            rintro e w9 ⟨rfl, hb9⟩
            have HI9 : Hid (Below w.heap.size w w9) := Lib.hid (past HI7.out.1.below hb9)
            obtain ⟨c0, c1, c2, c3, c4, c5⟩ := HI7.out.2.1.below HI7.out.2.2 hb9
            simp only at c0 c1 c2 c3 c4 c5
            clear hb9 HI7
            go_wp2
            (try rw [Exit.noGoto_ret])
            go_ret
            exact ⟨rfl, HI9.out⟩
end Go.Proofs.YtdiipbichlbmgaaDoor.policyLines
