/-
  The walk of VaryOrders: it returns true, and writes nothing that was there.
-/
import Derived.Test.YtimopggllnfibaaStr
import Derived.Deep.RegionHeld3
namespace Go.Proofs.Ytimopggllnfibaa.varyOrders
open Go.RowKit

theorem lens {a b : Nat} (h : (enc a).length ≠ (enc b).length) : (enc a).length < (enc b).length ∧ a < b ∨ (enc b).length < (enc a).length ∧ b < a := by
  rcases Nat.lt_or_ge a b with hab | hab
  · have := enc_mono (Nat.le_of_lt hab); left; omega
  · have := enc_mono hab; right; refine ⟨by omega, ?_⟩
    rcases Nat.lt_or_eq_of_le hab with h1 | h1
    · exact h1
    · subst h1; omega

theorem up (a k : Nat) (hk : 0 < k) : a / 128 ^ (k - 1) = 128 * (a / 128 ^ k) + a / 128 ^ (k - 1) % 128 := by
  have e : 128 ^ k = 128 ^ (k - 1) * 128 := by rw [← Nat.pow_succ]; congr 1; omega
  rw [e, ← Nat.div_div_eq_div_mul]
  omega
theorem same {a b k L : Nat} (hk : 0 < k) (hL : k ≤ L) (ha : (enc a).length = L) (hb : (enc b).length = L) (h : a / 128 ^ k = b / 128 ^ k) (hc : (enc a).getD (k - 1) 0 = (enc b).getD (k - 1) 0) :
    a / 128 ^ (k - 1) = b / 128 ^ (k - 1) := by
  rw [enc_get a (k - 1) (by omega), enc_get b (k - 1) (by omega), ha, hb] at hc
  rw [up a k hk, up b k hk, h]
  omega
theorem other {a b k L : Nat} (hk : 0 < k) (hL : k ≤ L) (ha : (enc a).length = L) (hb : (enc b).length = L) (h : a / 128 ^ k = b / 128 ^ k) (hc : (enc a).getD (k - 1) 0 ≠ (enc b).getD (k - 1) 0) :
    ((enc a).getD (k - 1) 0 % 128 < (enc b).getD (k - 1) 0 % 128 ∧ a < b) ∨ ((enc b).getD (k - 1) 0 % 128 < (enc a).getD (k - 1) 0 % 128 ∧ b < a) := by
  have h1 := up a k hk
  have h2 := up b k hk
  have p1 : ∀ x y : Nat, x / 128 ^ (k - 1) < y / 128 ^ (k - 1) → x < y := fun x y hxy => by
    rcases Nat.lt_or_ge x y with h | h
    · exact h
    · have := Nat.div_le_div_right (c := 128 ^ (k - 1)) h; omega
  rw [enc_get a (k - 1) (by omega), enc_get b (k - 1) (by omega), ha, hb] at hc ⊢
  have q1 := p1 a b
  have q2 := p1 b a
  have hf : (if k - 1 + 1 < L then 128 else 0) % 128 = 0 := by split <;> rfl
  generalize (if k - 1 + 1 < L then 128 else 0) = f at hc hf ⊢
  omega

set_option maxRecDepth 100000 in
set_option maxHeartbeats 1000000 in
theorem walk (a0 : Int) (a1 : Int) (w0 : (Lit.int .u64 a0).wf = true) (w1 : (Lit.int .u64 a1).wf = true) (w : World) :
    Calls Try.prog 3 #[.int .u64 a0, .int .u64 a1] w fun e w' => e = .returned (.bool true) ∧ Below w.heap.size w w' := by
  obtain ⟨l0, u0⟩ := fits_u64 w0
  obtain ⟨l1, u1⟩ := fits_u64 w1
  clear w0 w1
  obtain ⟨a, rfl⟩ := Int.eq_ofNat_of_zero_le l0
  obtain ⟨b, rfl⟩ := Int.eq_ofNat_of_zero_le l1
  have ha : a < 18446744073709551616 := by omega
  have hb : b < 18446744073709551616 := by omega
  clear l0 u0 l1 u1
  have hA1 := enc_ne a
  have hA2 := enc_len_le ha
  have hB1 := enc_ne b
  have hB2 := enc_len_le hb
  go_enter Try.func3, Try.ntmps3
  go_wp2_with fail
  refine (put_any a _ ha).mono ?_
  rintro e wa ⟨g, cap, rfl, hown, hb1⟩
  obtain ⟨hBy, _, hcap, _, hg1, hg2⟩ := Bytes.own hown (enc_byte _)
  have HB := Lib.hid hBy
  clear hBy hown
  go_wp2_with fail
  refine (put_any b _ hb).mono ?_
  rintro e wb ⟨g', cap', rfl, hown, hb2⟩
  obtain ⟨hBy', _, hcap', _, hg1', hg2'⟩ := Bytes.own hown (enc_byte _)
  have HB' := Lib.hid hBy'
  have HB1 := Lib.hid (HB.out.keep hb2 (fun ad e => by injection e with e; subst e; exact hg2))
  clear HB hBy' hown
  have hbb : Below w.heap.size w wb := hb1.trans (hb2.mono hb1.size)
  obtain ⟨La, hLa⟩ : ∃ L, (enc a).length = L := ⟨_, rfl⟩
  obtain ⟨Lb, hLb⟩ : ∃ L, (enc b).length = L := ⟨_, rfl⟩
  have HLA := Lib.hid hLa
  have HLB := Lib.hid hLb
  rw [hLa] at hA1 hA2 hcap ⊢
  rw [hLb] at hB1 hB2 hcap' ⊢
  clear hLa hLb
  by_cases hL : La = Lb
  · by_cases hab : a = b
    · subst hab
      subst hL
      go_wp2_with fail
      refine (told_any _).mono ?_
      rintro e wc ⟨rfl, hbt⟩
      have hc1 := conv_bytes (HB1.out.keep hbt (fun ad e => by injection e with e; subst e; have := hb2.size; exact Nat.lt_of_lt_of_le hg2 this)) La cap HLA.out
      have hc2 := conv_bytes (HB'.out.keep hbt (fun ad e => by injection e with e; subst e; exact hg2')) La cap' HLA.out
      go_wp2
      go_ret
      exact ⟨rfl, hbb.trans (hbt.mono hbb.size)⟩
    · subst hL
      have hne : ((a : Int) == (b : Int)) = false := by simp; omega
      have hgs := hb2.size
      go_wp2
      go_loopw [7] (fun i wr => ∃ k : Nat, k ≤ La ∧ i = .int .i64 ((k : Int) - 1) ∧ Hid (a / 128 ^ k = b / 128 ^ k) ∧ Below wb.heap.size wb wr) (fun i _ => (intOf i + 1).toNat)
      case atStart =>
        refine ⟨La, Nat.le_refl _, rfl, ?_, Below.refl _ _⟩
        have e1 := (enc_len a La hA1).1 (Nat.le_of_eq HLA.out)
        have e2 := (enc_len b La hA1).1 (Nat.le_of_eq HLB.out)
        show a / 128 ^ La = b / 128 ^ La
        rw [Nat.div_eq_of_lt e1, Nat.div_eq_of_lt e2]
      case round =>
        obtain ⟨k, hk, rfl, hq, hbr⟩ := hrel
        by_cases hk0 : 0 < k
        · have hc1 := (HB1.out.keep hbr (fun ad e => by injection e with e; subst e; exact Nat.lt_of_lt_of_le hg2 hgs)).2 (by rw [HLA.out]; omega)
          obtain ⟨ad, e, hc1⟩ := hc1
          injection e with e
          subst e
          have hx := hc1 (k - 1) (by rw [HLA.out]; omega)
          have hc2 := (HB'.out.keep hbr (fun ad e => by injection e with e; subst e; exact hg2')).2 (by rw [HLB.out]; omega)
          obtain ⟨ad, e, hc2⟩ := hc2
          injection e with e
          subst e
          have hy := hc2 (k - 1) (by rw [HLB.out]; omega)
          have hx256 := enc_byte a _ (getD_mem (i := k - 1) (by rw [HLA.out]; omega))
          have hy256 := enc_byte b _ (getD_mem (i := k - 1) (by rw [HLB.out]; omega))
          clear hc1 hc2
          rw [addr0] at hx hy
          have hsame := same (a := a) (b := b) hk0 hk HLA.out HLB.out hq.out
          have hother := other (a := a) (b := b) hk0 hk HLA.out HLB.out hq.out
          generalize (enc a).getD (k - 1) 0 = x at hx hx256 hsame hother
          generalize (enc b).getD (k - 1) 0 = y at hy hy256 hsame hother
          by_cases hxy : x = y
          · have hsm := Lib.hid (hsame hxy)
            subst hxy
            clear hsame hother hq
            go_wp2
            go_region
            all_goals go_wp2
            all_goals (go_roundw)
            case rel => exact ⟨k - 1, by omega, by go_num, hsm, hbr.drew⟩
            case measure => simp [intOf]; omega
          · have hot := hother hxy
            have hne1 : ((x : Int) == (y : Int)) = false := by simp; omega
            have hne2 : ((x : Int) != (y : Int)) = true := by simp; omega
            have hand1 := and127 x hx256
            have hand2 := and127 y hy256
            clear hsame hother hq
            have hgw : g < wr.heap.size := Nat.lt_of_lt_of_le (Nat.lt_of_lt_of_le hg2 hgs) hbr.size
            have hgw' : g' < wr.heap.size := Nat.lt_of_lt_of_le hg2' hbr.size
            generalize x % 128 = d1 at hand1 hot
            generalize y % 128 = d2 at hand2 hot
            have i1 : (1 : Int) ≤ (k : Int) := by omega
            have i2 : (0 : Int) ≤ (k : Int) - 1 := by omega
            have i3 : (k : Int) - 1 < (La : Int) := by omega
            have i4 : ((k : Int) - 1).toNat = k - 1 := by omega
            rcases hot with ⟨hd, hab'⟩ | ⟨hd, hab'⟩
            · have t1 : decide (d2 < d1) = false := by simp; omega
              have t2 : decide (b < a) = false := by simp; omega
              go_wp2
              go_region
              all_goals go_wp2
              go_region_held3 (fun w' => w'.cell? ⟨g, k - 1, none⟩ = some (.int .u8 (x : Int)) ∧ w'.cell? ⟨g', k - 1, none⟩ = some (.int .u8 (y : Int)))
                (first
                  | go_keep
                  | exact ⟨(hbt.cell (p := ⟨g, k - 1, none⟩) (by exact hgw)).trans hx, (hbt.cell (p := ⟨g', k - 1, none⟩) (by exact hgw')).trans hy⟩)
                ((go_at_call 10; refine (told_any _).mono ?_; rintro e wt ⟨rfl, hbt⟩))
              go_wp2
              go_ret
              exact ⟨rfl, hbb.trans ((hbr.drew.drew.trans (hbt.mono (by exact hbr.size))).mono hbb.size)⟩
            · have t1 : decide (d2 < d1) = true := by simp; omega
              have t2 : decide (b < a) = true := by simp; omega
              go_wp2
              go_region
              all_goals go_wp2
              go_region_held3 (fun w' => w'.cell? ⟨g, k - 1, none⟩ = some (.int .u8 (x : Int)) ∧ w'.cell? ⟨g', k - 1, none⟩ = some (.int .u8 (y : Int)))
                (first
                  | go_keep
                  | exact ⟨(hbt.cell (p := ⟨g, k - 1, none⟩) (by exact hgw)).trans hx, (hbt.cell (p := ⟨g', k - 1, none⟩) (by exact hgw')).trans hy⟩)
                ((go_at_call 10; refine (told_any _).mono ?_; rintro e wt ⟨rfl, hbt⟩))
              go_wp2
              go_ret
              exact ⟨rfl, hbb.trans ((hbr.drew.drew.trans (hbt.mono (by exact hbr.size))).mono hbb.size)⟩
        · exfalso
          have := hq.out
          obtain rfl : k = 0 := by omega
          simp at this
          omega
  · have hx := lens (a := a) (b := b) (by rw [HLA.out, HLB.out]; exact hL)
    rw [HLA.out, HLB.out] at hx
    rcases hx with ⟨h1, h2⟩ | ⟨h1, h2⟩
    · go_wp2_with fail
      refine (told_any _).mono ?_
      rintro e wc ⟨rfl, hbt⟩
      go_wp2
      go_ret
      exact ⟨rfl, hbb.trans (hbt.mono hbb.size)⟩
    · go_wp2_with fail
      refine (told_any _).mono ?_
      rintro e wc ⟨rfl, hbt⟩
      go_wp2
      go_ret
      exact ⟨rfl, hbb.trans (hbt.mono hbb.size)⟩
end Go.Proofs.Ytimopggllnfibaa.varyOrders
