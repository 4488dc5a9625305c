/-
  Few: at most seventy of either.
  Decimal: the digits of a number that is not below zero.
  The document's Name: of any number.
  Contracts of the library at this program: what the layings say of its bodies, types and tables.
  Name of any number, over the library's table of powers.
-/
import Derived.Test.YtepancmkopifpaaGreatDoorSPut
import Derived.Lib.ItoaLen
import Derived.Shelf.Strconv.Itoa0
import Derived.Shelf.Strconv.Itoa1
import Derived.Shelf.LaysM
import Derived.Shelf.Strconv.Itoa2
import Derived.Shelf.Strconv.Itoa3
import Derived.Test.YtepancmkopifpaaGreatDoorProg
import Derived.Test.YtepancmkopifpaaGreatDoorPArgs
import Derived.Lib.AppendIntMem
set_option maxRecDepth 100000
namespace Go.Proofs.YtepancmkopifpaaGreatDoor
open Go.RowKit
attribute [local go_sem ↓] Go.wp_at_zero Go.wp_at_succ
set_option linter.unusedVariables false

set_option maxHeartbeats 600000 in
theorem few_any {i k f t : Int} {n m ca cb : Nat} {A B : Option Addr} {w : World} :
    Calls Tryz.prog 4 #[.agg #[.int .i64 i, .int .i64 k, .int .i64 f, .int .i64 t, .slice A n ca, .slice B m cb]] w fun e w' => e = .returned (.bool (decide (n ≤ 70 ∧ m ≤ 70))) ∧ Below w.heap.size w w' := by
  have hb := below_box w (.cells #[.int .i64 i, .int .i64 k, .int .i64 f, .int .i64 t, .slice A n ca, .slice B m cb] 25)
  have hv := SgV.new w i k f t (.slice A n ca) (.slice B m cb) 25
  go_enter Tryz.func4, Tryz.ntmps4
  go_upto_region 1 with fail
  generalize (w.alloc (.cells #[.int .i64 i, .int .i64 k, .int .i64 f, .int .i64 t, .slice A n ca, .slice B m cb] 25)) = w1 at *
  have HB := Lib.hid hb
  obtain ⟨c0, c1, c2, c3, c4, c5, _⟩ := hv
  clear hb
  by_cases h1 : n ≤ 70
  · by_cases h2 : m ≤ 70
    · have HD : Hid (decide (n ≤ 70 ∧ m ≤ 70) = true) := Lib.hid (decide_eq_true ⟨h1, h2⟩)
      have i1 : (n : Int) ≤ 70 := by omega
      have i2 : (m : Int) ≤ 70 := by omega
      go_wp2
      go_ret
      exact ⟨by have := HD.out; first | (rw [this]; rfl) | simp [go_sem], HB.out⟩
    · have HD : Hid (decide (n ≤ 70 ∧ m ≤ 70) = false) := Lib.hid (decide_eq_false (fun h => h2 h.2))
      have i1 : (n : Int) ≤ 70 := by omega
      have i2 : ¬ (m : Int) ≤ 70 := by omega
      go_wp2
      go_ret
      exact ⟨by have := HD.out; first | (rw [this]; rfl) | simp [go_sem], HB.out⟩
  · have HD : Hid (decide (n ≤ 70 ∧ m ≤ 70) = false) := Lib.hid (decide_eq_false (fun h => h1 h.1))
    have i1 : ¬ (n : Int) ≤ 70 := by omega
    go_wp2
    go_ret
    exact ⟨by have := HD.out; first | (rw [this]; rfl) | simp [go_sem], HB.out⟩
end Go.Proofs.YtepancmkopifpaaGreatDoor
set_option maxRecDepth 100000
namespace Go.Proofs.YtepancmkopifpaaGreatDoor
open Go.RowKit
attribute [local go_sem ↓] Go.wp_at_zero Go.wp_at_succ
set_option linter.unusedVariables false

/-- The digits of u as a string. -/
def decS (u : Nat) : ByteArray := ⟨(Lib.decDigits u).toArray⟩
def digS (u : Nat) : ByteArray := ⟨#[UInt8.ofNat (48 + u)]⟩
theorem dig_slice {d : Nat} (h : d < 10) (w : World) : (Instr.slice 9 (.string { data := #[48, 49, 50, 51, 52, 53, 54, 55, 56, 57] }) (some (.int .i64 (d : Int))) (some (.int .i64 ((d : Int) + 1))) none).run Tryz.prog w = .ok (.string (digS d)) w := by
  match d, h with
  | 0, _ => rfl
  | 1, _ => rfl
  | 2, _ => rfl
  | 3, _ => rfl
  | 4, _ => rfl
  | 5, _ => rfl
  | 6, _ => rfl
  | 7, _ => rfl
  | 8, _ => rfl
  | 9, _ => rfl
theorem decS_size {u : Nat} (h : u < 18446744073709551616) : (decS u).size ≤ 20 := by
  show (Lib.decDigits u).toArray.size ≤ 20
  rw [List.size_toArray, Lib.decDigits_length]
  exact Lib.nDigits_le20 u h
/-- The digits that stand, and those that are still to come. -/
def DI (N n : Nat) (D : ByteArray) : Prop := ∃ l : List UInt8, D = ⟨l.toArray⟩ ∧ Lib.decDigits N = Lib.decDigits n ++ l
theorem DI.size {N n : Nat} {D : ByteArray} (h : DI N n D) (hN : N < 18446744073709551616) : D.size ≤ 20 := by
  obtain ⟨l, rfl, e⟩ := h
  have h1 := decS_size hN
  unfold decS at h1
  rw [e] at h1
  show l.toArray.size ≤ 20
  have : (Lib.decDigits n ++ l).toArray.size ≤ 20 := h1
  simp only [List.size_toArray, List.length_append] at this ⊢
  omega
theorem DI.step {N n : Nat} {D : ByteArray} (h : DI N n D) (hn : 9 < n) : DI N (n / 10) (digS (n % 10) ++ D) := by
  obtain ⟨l, rfl, e⟩ := h
  refine ⟨UInt8.ofNat (48 + n % 10) :: l, ?_, ?_⟩
  · apply ByteArray.ext
    simp [digS]
  · rw [e, Lib.decDigits, dif_neg (by omega), List.append_assoc]
    rfl
theorem DI.last {N n : Nat} {D : ByteArray} (h : DI N n D) (hn : n ≤ 9) : digS n ++ D = decS N := by
  obtain ⟨l, rfl, e⟩ := h
  unfold decS
  rw [e, Lib.decDigits, dif_pos (by omega)]
  apply ByteArray.ext
  simp [digS]

set_option maxHeartbeats 1000000 in
theorem decimal_any {N : Nat} (hN : N < 9223372036854775808) (w : World) : Calls Tryz.prog 49 #[.int .i64 (N : Int)] w fun e w' => e = .returned (.string (decS N)) ∧ w = w' := by
  have i0 : ¬ (N : Int) < 0 := by omega
  have HI0 : Hid (DI N N ⟨#[]⟩) := Lib.hid ⟨[], rfl, by simp⟩
  have HNN := Lib.hid hN
  go_enter Tryz.func49, Tryz.ntmps49
  go_wp2
  go_loopw [0, 5] (fun s0 s5 wr => ∃ (n : Nat) (D : ByteArray), n ≤ N ∧ s0 = .int .i64 (n : Int) ∧ s5 = .string D ∧ Hid (DI N n D) ∧ w = wr) (fun s0 _ _ => (intOf s0).toNat)
  case atStart => exact ⟨N, _, by omega, rfl, rfl, HI0, rfl⟩
  case round =>
    clear HI0
    obtain ⟨n, D, hn, rfl, rfl, HI, rfl⟩ := hrel
    have hsz := HI.out.size (by have := HNN.out; omega)
    have hz1 : ∀ u, (digS u).size = 1 := fun u => rfl
    by_cases hlt : 9 < n
    · have i1 : (n : Int) > 9 := by omega
      have hd := dig_slice (show n % 10 < 10 by omega) w
      obtain ⟨Q, hQ⟩ : ∃ Q, n / 10 = Q := ⟨_, rfl⟩
      obtain ⟨R, hR⟩ : ∃ R, n % 10 = R := ⟨_, rfl⟩
      have HS := Lib.hid (HI.out.step hlt)
      have r1 : (n : Int).tmod 10 = (R : Int) := by rw [Int.tmod_eq_emod_of_nonneg (by omega), ← hR]; rfl
      have q1 : (n : Int).tdiv 10 = (Q : Int) := by rw [Int.tdiv_eq_ediv_of_nonneg (by omega), ← hQ]; rfl
      rw [hR] at hd HS
      rw [hQ] at HS
      have hR9 : R < 10 := by omega
      have hQN : Q < n := by omega
      have hN' := HNN.out
      have k1 : IntKind.i64.wrap (R : Int) = (R : Int) := by rw [IntKind.wrap_i64]; omega
      have k2 : IntKind.i64.wrap (Q : Int) = (Q : Int) := by rw [IntKind.wrap_i64]; omega
      have k3 : IntKind.i64.wrap ((R : Int) + 1) = (R : Int) + 1 := by rw [IntKind.wrap_i64]; omega
      have hzR := hz1 R
      have hsum : 2 + (digS R).size + D.size ≤ 9223372036854775807 := by omega
      clear hQ hR hz1 HI
      generalize digS R = SR at *
      go_wp2
      go_roundw
      case rel => exact ⟨Q, _, by omega, by go_num, rfl, HS, trivial⟩
      case measure => simp [intOf]; omega
    · have i1 : ¬ (n : Int) > 9 := by omega
      have hd := dig_slice (show n < 10 by omega) w
      have HL := Lib.hid (HI.out.last (by omega))
      have k3 : IntKind.i64.wrap ((n : Int) + 1) = (n : Int) + 1 := by rw [IntKind.wrap_i64]; omega
      have hzR := hz1 n
      have hsum : 2 + (digS n).size + D.size ≤ 9223372036854775807 := by omega
      clear hz1 HI
      generalize digS n = SR at *
      go_wp2
      (try simp only [Exit.inBlock, Exit.then])
      go_ret
      exact ⟨by rw [← HL.out]; rfl, rfl⟩
end Go.Proofs.YtepancmkopifpaaGreatDoor
set_option maxRecDepth 100000
namespace Go.Proofs.YtepancmkopifpaaGreatDoor
open Go.RowKit
attribute [local go_sem ↓] Go.wp_at_zero Go.wp_at_succ
set_option linter.unusedVariables false

/-- The name of a segment's file. -/
def nameS (id : Int) : ByteArray := if id < 1 then ⟨#[]⟩ else ⟨#[115]⟩ ++ decS id.toNat

set_option maxHeartbeats 400000 in
theorem refname_any {id : Int} (h : In64 id) (w : World) : Calls Tryz.prog 18 #[.int .i64 id] w fun e w' => e = .returned (.string (nameS id)) ∧ w = w' := by
  by_cases h1 : id < 1
  · have HN : Hid (nameS id = ⟨#[]⟩) := Lib.hid (if_pos h1)
    go_enter Tryz.func18, Tryz.ntmps18
    go_wp2
    (try simp only [Exit.inBlock, Exit.then])
    go_ret
    exact ⟨by rw [HN.out]; rfl, rfl⟩
  · have HN : Hid (nameS id = ⟨#[115]⟩ ++ decS id.toNat) := Lib.hid (if_neg h1)
    obtain ⟨N, hN⟩ : ∃ N : Nat, id = (N : Int) := ⟨id.toNat, by omega⟩
    subst hN
    rw [Int.toNat_natCast] at HN
    unfold In64 at h
    have m1 := fun w => decimal_any (N := N) (by omega) w
    have M1 := Lib.hid m1
    have hz := decS_size (u := N) (by omega)
    have hsum : 2 + (decS N).size ≤ 9223372036854775807 := by omega
    have hk : IntKind.i64.wrap (N : Int) = (N : Int) := by rw [IntKind.wrap_i64]; omega
    clear m1
    generalize decS N = SD at *
    have hsum2 : 2 + ({ data := #[115] } : ByteArray).size + SD.size ≤ 9223372036854775807 := by
      show 2 + 1 + SD.size ≤ _
      omega
    go_enter Tryz.func18, Tryz.ntmps18
    go_wp2_with fail
    refine (M1.out _).mono ?_
    rintro e w2 ⟨rfl, rfl⟩
    go_wp2
    (try simp only [Exit.inBlock, Exit.then])
    go_ret
    exact ⟨by rw [HN.out]; rfl, rfl⟩
end Go.Proofs.YtepancmkopifpaaGreatDoor
namespace Go.Proofs
open Go.Shelf Go.RowKit
def Tryz.laysM171_ren : Go.Shelf.Ren := ⟨fun | 171 => 48 | 243 => 77 | 246 => 97 | 283 => 104 | 284 => 105 | 285 => 106 | 286 => 107 | 129 => 82 | 317 => 108 | 318 => 109 | 319 => 110 | 320 => 111 | 337 => 112 | 338 => 113 | n => n, fun | 3 => 3 | 9 => 9 | 2 => 2 | 4 => 4 | 171 => 122 | 0 => 0 | 53 => 53 | 37 => 26 | 5 => 5 | 173 => 124 | 212 => 128 | 51 => 36 | 20 => 20 | 213 => 129 | 46 => 89 | 232 => 132 | 233 => 133 | n => n, fun | 17 => 1 | 18 => 2 | 19 => 3 | n => n⟩
theorem Tryz.laysM171 : Go.Proofs.LaysM.n171 Tryz.prog Tryz.laysM171_ren := {
  mixed := by kernel_rfl
  f129 := Tryz.func82.trans (congrArg some (by kernel_rfl))
  f171 := Tryz.func48.trans (congrArg some (by kernel_rfl))
  f243 := Tryz.func77.trans (congrArg some (by kernel_rfl))
  f246 := Tryz.func97.trans (congrArg some (by kernel_rfl))
  f283 := Tryz.func104.trans (congrArg some (by kernel_rfl))
  f284 := Tryz.func105.trans (congrArg some (by kernel_rfl))
  f285 := Tryz.func106.trans (congrArg some (by kernel_rfl))
  f286 := Tryz.func107.trans (congrArg some (by kernel_rfl))
  f317 := Tryz.func108.trans (congrArg some (by kernel_rfl))
  f318 := Tryz.func109.trans (congrArg some (by kernel_rfl))
  f319 := Tryz.func110.trans (congrArg some (by kernel_rfl))
  f320 := Tryz.func111.trans (congrArg some (by kernel_rfl))
  f337 := Tryz.func112.trans (congrArg some (by kernel_rfl))
  f338 := Tryz.func113.trans (congrArg some (by kernel_rfl))
  t0 := Tryz.underlying0
  a0 := Tryz.isAgg0
  z0 := Tryz.sizeOf0
  v0 := Tryz.zeroValue0
  t2 := Tryz.underlying2
  a2 := Tryz.isAgg2
  z2 := Tryz.sizeOf2
  v2 := Tryz.zeroValue2
  t3 := Tryz.underlying3
  a3 := Tryz.isAgg3
  z3 := Tryz.sizeOf3
  v3 := Tryz.zeroValue3
  t4 := Tryz.underlying4
  a4 := Tryz.isAgg4
  z4 := Tryz.sizeOf4
  v4 := Tryz.zeroValue4
  t5 := Tryz.underlying5
  a5 := Tryz.isAgg5
  z5 := Tryz.sizeOf5
  v5 := Tryz.zeroValue5
  t9 := Tryz.underlying9
  a9 := Tryz.isAgg9
  z9 := Tryz.sizeOf9
  v9 := Tryz.zeroValue9
  t20 := Tryz.underlying20
  a20 := Tryz.isAgg20
  z20 := Tryz.sizeOf20
  v20 := Tryz.zeroValue20
  t37 := Tryz.underlying26
  a37 := Tryz.isAgg26
  z37 := Tryz.sizeOf26
  v37 := Tryz.zeroValue26
  t46 := Tryz.underlying89
  a46 := Tryz.isAgg89
  z46 := Tryz.sizeOf89
  v46 := Tryz.zeroValue89
  t51 := Tryz.underlying36
  a51 := Tryz.isAgg36
  z51 := Tryz.sizeOf36
  v51 := Tryz.zeroValue36
  t53 := Tryz.underlying53
  a53 := Tryz.isAgg53
  z53 := Tryz.sizeOf53
  v53 := Tryz.zeroValue53
  t171 := Tryz.underlying122
  a171 := Tryz.isAgg122
  z171 := Tryz.sizeOf122
  v171 := Tryz.zeroValue122
  t173 := Tryz.underlying124
  a173 := Tryz.isAgg124
  z173 := Tryz.sizeOf124
  v173 := Tryz.zeroValue124
  t212 := Tryz.underlying128
  a212 := Tryz.isAgg128
  z212 := Tryz.sizeOf128
  v212 := Tryz.zeroValue128
  t213 := Tryz.underlying129
  a213 := Tryz.isAgg129
  z213 := Tryz.sizeOf129
  t232 := Tryz.underlying132
  a232 := Tryz.isAgg132
  z232 := Tryz.sizeOf132
  v232 := Tryz.zeroValue132
  t233 := Tryz.underlying133
  a233 := Tryz.isAgg133
  z233 := Tryz.sizeOf133
  v233 := Tryz.zeroValue133
  g17 := by kernel_rfl
  g18 := by kernel_rfl
  g19 := by kernel_rfl
  i0 := by kernel_rfl
  i2 := by kernel_rfl
  i3 := by kernel_rfl
  i4 := by kernel_rfl
  i5 := by kernel_rfl
  i9 := by kernel_rfl
  i20 := by kernel_rfl
  i37 := by kernel_rfl
  i46 := by kernel_rfl
  i51 := by kernel_rfl
  i53 := by kernel_rfl
  i171 := by kernel_rfl
  i173 := by kernel_rfl
  i212 := by kernel_rfl
  i232 := by kernel_rfl
  i233 := by kernel_rfl
  m17 := by kernel_rfl
  m18 := by kernel_rfl
  m19 := by kernel_rfl }
open Go.RowKit Go.Sort Go.Lib in
theorem Tryz.strconv_Itoa (n : Int) (h0 : -9223372036854775808 ≤ n) (h1 : n ≤ 9223372036854775807) (w : World) (htab : Lib.TabIs Tryz.prog w "internal/strconv.uint64pow10" .u64 Lib.pow10Tab) :
    Calls Tryz.prog 48 #[.int .i64 n] w fun e w' => e = .returned (.string ⟨(Lib.itoa n).toArray⟩) ∧ ∃ k os, w' = grow (w.drewN k) os := Any.strconv_Itoa Tryz.laysM171 n h0 h1 w htab
end Go.Proofs
set_option maxRecDepth 100000
namespace Go.Proofs.YtepancmkopifpaaGreatDoor
open Go.RowKit
attribute [local go_sem ↓] Go.wp_at_zero Go.wp_at_succ
set_option linter.unusedVariables false

/-- The library's table of powers. -/
def Pow (w : World) : Prop := Lib.TabIs Tryz.prog w "internal/strconv.uint64pow10" .u64 Lib.pow10Tab
theorem Pow.below {w w' : World} (h : Pow w) (hb : Below w.heap.size w w') : Pow w' := Lib.tabBelow_of_tabIs h w' hb
theorem below_growN (w : World) (n : Nat) (os : Array Obj) : Below w.heap.size w (Sort.grow (w.drewN n) os) :=
  ⟨rfl, rfl, rfl, by rw [Sort.size_grow]; exact Nat.le_add_right _ _, fun k hk => Sort.heap_grow_old (w.drewN n) os hk⟩
theorem itoa_any {N : Nat} (hN : N < 9223372036854775808) (w : World) (hT : Pow w) : Calls Tryz.prog 48 #[.int .i64 (N : Int)] w fun e w' => e = .returned (.string (decS N)) ∧ Below w.heap.size w w' :=
  (Tryz.strconv_Itoa (N : Int) (by omega) (by omega) w hT).mono (by
    rintro e w' ⟨rfl, k, os, rfl⟩
    refine ⟨?_, below_growN w k os⟩
    have : Lib.itoa (N : Int) = Lib.decDigits N := by unfold Lib.itoa; rw [if_neg (by omega)]; rfl
    rw [this]
    rfl)

set_option maxHeartbeats 400000 in
theorem name_any {id : Int} (h : In64 id) {w : World} (hT : Pow w) : Calls Tryz.prog 17 #[.int .i64 id] w fun e w' => e = .returned (.string (nameS id)) ∧ Below w.heap.size w w' := by
  by_cases h1 : id < 1
  · have HN : Hid (nameS id = ⟨#[]⟩) := Lib.hid (if_pos h1)
    go_enter Tryz.func17, Tryz.ntmps17
    go_wp2
    (try simp only [Exit.inBlock, Exit.then])
    go_ret
    exact ⟨by rw [HN.out]; rfl, belowN _ 0⟩
  · have HN : Hid (nameS id = ⟨#[115]⟩ ++ decS id.toNat) := Lib.hid (if_neg h1)
    obtain ⟨N, hN⟩ : ∃ N : Nat, id = (N : Int) := ⟨id.toNat, by omega⟩
    subst hN
    rw [Int.toNat_natCast] at HN
    unfold In64 at h
    have m1 := itoa_any (N := N) (by omega) w hT
    have M1 := Lib.hid m1
    have hz := decS_size (u := N) (by omega)
    have hsum : 2 + (decS N).size ≤ 9223372036854775807 := by omega
    have hk : IntKind.i64.wrap (N : Int) = (N : Int) := by rw [IntKind.wrap_i64]; omega
    clear m1 hT
    generalize decS N = SD at *
    have hsum2 : 2 + ({ data := #[115] } : ByteArray).size + SD.size ≤ 9223372036854775807 := by
      show 2 + 1 + SD.size ≤ _
      omega
    go_enter Tryz.func17, Tryz.ntmps17
    go_wp2_with fail
    refine M1.out.mono ?_
    rintro e w2 ⟨rfl, hb⟩
    have HB := Lib.hid hb
    clear hb
    go_wp2
    (try simp only [Exit.inBlock, Exit.then])
    go_ret
    exact ⟨by rw [HN.out]; rfl, HB.out⟩
theorem pow_of_laid4 {W : World} (h : laidMetH Tryz.prog laidList W) : Pow W := by
  rw [MakeChecks.laidMetH_plain _ _ _ (by kernel_rfl)] at h
  obtain ⟨ps, h, _⟩ := h
  obtain ⟨q, h⟩ := laid_tail h
  obtain ⟨q, h⟩ := laid_tail h
  exact tabIs_of_vars (g := 1) (t := 128) (e := 53) (by kernel_rfl) (by kernel_rfl) Tryz.underlying128 Tryz.underlying53 (by kernel_rfl) (by kernel_rfl) h
end Go.Proofs.YtepancmkopifpaaGreatDoor
