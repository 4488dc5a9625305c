/-
  More and Of, and the document's own: what each returns at every row of bytes and every beginning, the world as it was. told: it returns true, and writes nothing that was there.
-/
import Derived.Test.YtepancmkopifpaaGreatDoorVRefGet
import Derived.Test.YtepancmkopifpaaGreatDoorGRead
import Derived.Deep.LoopGhost
import Derived.Deep.DeepCutAuto
namespace Go.Proofs.YtepancmkopifpaaGreatDoor
open Go.RowKit

theorem rem_nat (s : Nat) : (s : Int) % 4294967291 = ((s % 4294967291 : Nat) : Int) := by omega

set_option maxRecDepth 100000 in
set_option maxHeartbeats 1000000 in
theorem more_in (b off len cap : Nat) (bs : List Nat) (s : Nat) (w : World) (hl : bs.length = len) (hb : ∀ c ∈ bs, c < 256) (hc : len ≤ cap) (hm : cap ≤ maxLen) (hs : s < 4294967296)
    (hcell : ∀ j, j < len → w.cell? ⟨b, off + j, none⟩ = some (.int .u8 ((bs.getD j 0 : Nat) : Int))) :
    Calls Tryz.prog 66 #[.int .u32 (s : Int), .slice (some ⟨b, off, none⟩) len cap] w fun e w' => e = .returned (.int .u32 (more s bs : Int)) ∧ w = w' := by
  unfold maxLen at hm
  have HL := Lib.hid hl
  have HB := Lib.hid hb
  have HCELL := Lib.hid hcell
  clear hl hb hcell
  obtain ⟨R, hR⟩ : ∃ R, R = more s bs := ⟨_, rfl⟩
  rw [← hR]
  have HR := Lib.hid hR
  have hRlt : R < 4294967291 := by rw [hR]; exact more_lt s bs
  clear hR
  have hrem := rem_nat s
  obtain ⟨n0, hn0⟩ : ∃ n0, n0 = s % 4294967291 := ⟨_, rfl⟩
  rw [← hn0] at hrem
  have hn0lt : n0 < 4294967291 := by omega
  have HR0 : Hid (R = run n0 bs) := Lib.hid (by rw [HR.out, hn0]; rfl)
  clear hn0 HR
  go_enter Tryz.func66, Tryz.ntmps66
  go_wp2
  go_step3
  go_wp2
  go_step3
  go_wp2
  go_loop [5, 13] (fun sn si => ∃ (k n : Nat), k ≤ len ∧ si = .int .i64 (k : Int) ∧ sn = .int .u64 (n : Int) ∧ n < 4294967291 ∧ Hid (R = run n (bs.drop k))) (fun _ si => len - (intOf si).toNat)
  case atStart => exact ⟨0, n0, by omega, rfl, congrArg (Value.int .u64) hrem, hn0lt, HR0⟩
  case round =>
    obtain ⟨k, n, hk, rfl, rfl, hn, HD⟩ := hrel
    by_cases hlt : k < len
    · have hcl := HCELL.out k hlt
      have hc256 := HB.out (bs.getD k 0) (getD_mem (by rw [HL.out]; omega))
      have hdr := drop_at (bs := bs) (i := k) (by rw [HL.out]; omega)
      generalize bs.getD k 0 = c at hcl hc256 hdr
      have hR : R = run ((n * 257 + c + 1) % 4294967291) (bs.drop (k + 1)) := by rw [HD.out, hdr]; rfl
      have HR' := Lib.hid hR
      clear hdr hR HD
      clear hrem
      have hmm : (n : Int) * 257 + (c : Int) + 1 = ((n * 257 + c + 1 : Nat) : Int) := by omega
      have hm41 : n * 257 + c + 1 < 1200000000000 := by omega
      obtain ⟨m, hm⟩ : ∃ m, m = n * 257 + c + 1 := ⟨_, rfl⟩
      rw [← hm] at hmm hm41 HR'
      clear hm
      by_cases hP : m < 4294967291
      · have t : decide ((m : Int) < 4294967291) = true := by simp; omega
        have HP := Lib.hid hP
        clear hP
        go_wp2
        go_round
        case rel => exact ⟨k + 1, m, by omega, by go_num, rfl, HP.out, by rw [Nat.mod_eq_of_lt HP.out] at HR'; exact HR'⟩
        case measure => simp [intOf]; omega
      · have t : decide ((m : Int) < 4294967291) = false := by simp; omega
        clear hP
        go_wp2
        go_round
        case rel => exact ⟨k + 1, m % 4294967291, by omega, by go_num, by go_num, by omega, HR'⟩
        case measure => simp [intOf]; omega
    · go_wp2
      try rw [Exit.noGoto_ret]
      go_ret
      refine ⟨ret_int ?_, rfl⟩
      have e : R = n := by
        rw [HD.out, List.drop_eq_nil_of_le (by rw [HL.out]; omega)]; rfl
      omega

set_option maxRecDepth 100000 in
theorem more_none (A : Option Addr) (cap : Nat) (s : Nat) (w : World) (hs : s < 4294967296) :
    Calls Tryz.prog 66 #[.int .u32 (s : Int), .slice A 0 cap] w fun e w' => e = .returned (.int .u32 (more s [] : Int)) ∧ w = w' := by
  have hR : more s [] = s % 4294967291 := rfl
  have HR := Lib.hid hR
  clear hR
  go_enter Tryz.func66, Tryz.ntmps66
  go_wp2
  go_step3
  go_wp2
  go_step3
  go_wp2
  all_goals
    refine wp_loop_rounds 1 ?_
    rw [rounds_succ]
    go_wp2
    try rw [Exit.noGoto_ret]
    go_ret
    refine ⟨ret_int ?_, rfl⟩
    rw [HR.out]
    omega

theorem more_any {A : Option Addr} {len cap : Nat} {bs : List Nat} (s : Nat) {w : World} (hl : bs.length = len) (hB : Bytes w A bs) (hc : len ≤ cap) (hm : cap ≤ maxLen) (hs : s < 4294967296) :
    Calls Tryz.prog 66 #[.int .u32 (s : Int), .slice A len cap] w fun e w' => e = .returned (.int .u32 (more s bs : Int)) ∧ w = w' := by
  by_cases h : 0 < len
  · obtain ⟨b, off, rfl, hcell⟩ := hB.at_ (by omega)
    exact more_in b off len cap bs s w hl hB.1 hc hm hs (by rw [← hl]; exact hcell)
  · obtain rfl : bs = [] := List.eq_nil_of_length_eq_zero (by omega)
    obtain rfl : len = 0 := by omega
    exact more_none A cap s w hs

theorem of_any {A : Option Addr} {len cap : Nat} {bs : List Nat} {w : World} (hl : bs.length = len) (hB : Bytes w A bs) (hc : len ≤ cap) (hm : cap ≤ maxLen) :
    Calls Tryz.prog 34 #[.slice A len cap] w fun e w' => e = .returned (.int .u32 (more 1 bs : Int)) ∧ w = w' := by
  have h := more_any 1 hl hB hc hm (by decide)
  have H := Lib.hid h
  have hlt := more_lt 1 bs
  clear h hm
  generalize more 1 bs = R at *
  go_enter Tryz.func34, Tryz.ntmps34
  go_wp2_with fail
  refine H.out.mono ?_
  rintro e w' ⟨rfl, rfl⟩
  go_wp2
  go_ret
  exact ⟨rfl, rfl⟩

set_option maxRecDepth 100000 in
set_option maxHeartbeats 1000000 in
theorem refmore_in (t : ByteArray) (bs : List Nat) (s : Nat) (w : World) (hl : t.size = bs.length) (hb : ∀ c ∈ bs, c < 256) (hm : t.size ≤ 10000) (hs : s < 4294967296)
    (hx : ∀ j (h : j < t.size), (t[j]'h).toNat = bs.getD j 0) :
    Calls Tryz.prog 58 #[.int .u32 (s : Int), .string t] w fun e w' => e = .returned (.int .u32 (more s bs : Int)) ∧ w = w' := by
  have HL := Lib.hid hl
  have HB := Lib.hid hb
  have HX := Lib.hid hx
  clear hl hb hx
  obtain ⟨R, hR⟩ : ∃ R, R = more s bs := ⟨_, rfl⟩
  rw [← hR]
  have HR := Lib.hid hR
  have hRlt : R < 4294967291 := by rw [hR]; exact more_lt s bs
  clear hR
  have hrem := rem_nat s
  obtain ⟨n0, hn0⟩ : ∃ n0, n0 = s % 4294967291 := ⟨_, rfl⟩
  rw [← hn0] at hrem
  have hn0lt : n0 < 4294967291 := by omega
  have HR0 : Hid (R = run n0 bs) := Lib.hid (by rw [HR.out, hn0]; rfl)
  clear hn0 HR
  go_enter Tryz.func58, Tryz.ntmps58
  go_wp2
  go_loop [5, 6] (fun sn si => ∃ (k n : Nat), k ≤ t.size ∧ si = .int .i64 (k : Int) ∧ sn = .int .u64 (n : Int) ∧ n < 4294967291 ∧ Hid (R = run n (bs.drop k))) (fun _ si => t.size - (intOf si).toNat)
  case atStart => exact ⟨0, n0, by omega, rfl, congrArg (Value.int .u64) hrem, hn0lt, HR0⟩
  case round =>
    obtain ⟨k, n, hk, rfl, rfl, hn, HD⟩ := hrel
    by_cases hlt : k < t.size
    · have hcl := HX.out k hlt
      have hc256 := HB.out (bs.getD k 0) (getD_mem (by rw [← HL.out]; omega))
      have hdr := drop_at (bs := bs) (i := k) (by rw [← HL.out]; omega)
      generalize bs.getD k 0 = c at hcl hc256 hdr
      have hR : R = run ((n * 257 + c + 1) % 4294967291) (bs.drop (k + 1)) := by rw [HD.out, hdr]; rfl
      have HR' := Lib.hid hR
      clear hdr hR HD hrem
      have hmm : (n : Int) * 257 + (c : Int) + 1 = ((n * 257 + c + 1 : Nat) : Int) := by omega
      have hm41 : n * 257 + c + 1 < 1200000000000 := by omega
      obtain ⟨m, hm⟩ : ∃ m, m = n * 257 + c + 1 := ⟨_, rfl⟩
      rw [← hm] at hmm hm41 HR'
      clear hm
      go_wp2
      go_round
      case rel => exact ⟨k + 1, m % 4294967291, by omega, by go_num, by go_num, by omega, HR'⟩
      case measure => simp [intOf]; omega
    · go_wp2
      go_ret
      refine ⟨ret_int ?_, rfl⟩
      have e : R = n := by
        rw [HD.out, List.drop_eq_nil_of_le (by rw [← HL.out]; omega)]; rfl
      omega

theorem refmore_any (s : Nat) (bs : List Nat) (w : World) (hb : ∀ c ∈ bs, c < 256) (hl : bs.length ≤ 10000) (hs : s < 4294967296) :
    Calls Tryz.prog 58 #[.int .u32 (s : Int), .string (strB bs)] w fun e w' => e = .returned (.int .u32 (more s bs : Int)) ∧ w = w' :=
  refmore_in (strB bs) bs s w (strB_size bs) hb (by rw [strB_size]; exact hl) hs (strB_get bs hb)
theorem refof_any (bs : List Nat) (w : World) (hb : ∀ c ∈ bs, c < 256) (hl : bs.length ≤ 10000) :
    Calls Tryz.prog 28 #[.string (strB bs)] w fun e w' => e = .returned (.int .u32 (more 1 bs : Int)) ∧ w = w' := by
  have h := refmore_any 1 bs w hb hl (by decide)
  have H := Lib.hid h
  have hlt := more_lt 1 bs
  clear h
  generalize more 1 bs = R at *
  generalize strB bs = t at *
  go_enter Tryz.func28, Tryz.ntmps28
  go_wp2_with fail
  refine H.out.mono ?_
  rintro e w' ⟨rfl, rfl⟩
  go_wp2
  go_ret
  exact ⟨rfl, rfl⟩

end Go.Proofs.YtepancmkopifpaaGreatDoor
