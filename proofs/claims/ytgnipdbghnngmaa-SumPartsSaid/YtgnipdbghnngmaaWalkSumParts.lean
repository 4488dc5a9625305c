/-
  The walk of SumParts, all ways together: it returns true, and writes nothing that was there.
-/
import Derived.Test.YtgnipdbghnngmaaWalkSumPartsWays
namespace Go.Proofs.Ytgnipdbghnngmaa.sumParts
open Go.RowKit

theorem walk (a0 : Option Addr) (len0 cap0 : Nat) (z0 : List Int) (a1 : Int) (w : World) (w0 : IsRow .u8 w a0 len0 cap0 z0) (_w1 : (Lit.int .i64 a1).wf = true) :
    Calls Try.prog 4 #[.slice a0 len0 cap0, .int .i64 a1] w fun e w' => e = .returned (.bool true) ∧ Below w.heap.size w w' := by
  obtain ⟨bs, hlen, hBy, hcap, hmax, hnone⟩ := Bytes.of_row w0
  clear w0
  by_cases h300 : 300 < len0
  · clear hlen hBy hmax
    go_enter Try.func4, Try.ntmps4
    go_wp2_with fail
    refine (told_any _).mono ?_
    rintro e wt ⟨rfl, hbt⟩
    go_wp2
    go_ret
    exact ⟨rfl, hbt⟩
  obtain ⟨U, hU⟩ := wrap_nat a1
  obtain ⟨k, hk⟩ : ∃ k, U % (len0 + 1) = k := ⟨_, rfl⟩
  have hkL : k < len0 + 1 := hk ▸ Nat.mod_lt U (by omega)
  have hkz : (U : Int) % ((len0 + 1 : Nat) : Int) = (k : Int) := by rw [← hk]; simp
  have hR := more_lt 1 bs
  have hS := more_lt 1 (bs.take k)
  have hLz : (len0 : Int) + 1 = ((len0 + 1 : Nat) : Int) := by omega
  have hof : ∀ w', Below w.heap.size w w' → Calls Try.prog 9 #[.slice a0 len0 cap0] w' fun e w'' => e = .returned (.int .u32 (more 1 bs : Int)) ∧ w' = w'' := fun w' hb => of_any hlen (hBy.below hb) hcap hmax
  have hot : ∀ w', Below w.heap.size w w' → Calls Try.prog 9 #[.slice a0 k cap0] w' fun e w'' => e = .returned (.int .u32 (more 1 (bs.take k) : Int)) ∧ w' = w'' :=
    fun w' hb => of_any (by rw [List.length_take]; omega) ((hBy.below hb).take k) (by omega) hmax
  rcases a0 with _ | ad
  · obtain rfl := hnone rfl
    obtain rfl : len0 = 0 := by omega
    obtain rfl : k = 0 := by omega
    obtain rfl : bs = [] := List.eq_nil_of_length_eq_zero hlen
    exact nought a1 w U _ _ hU hLz hkz (by omega) (by omega) hR hof (fun w' _ => by
      have := more_none none 0 (more 1 []) w' (by omega)
      exact this)
  by_cases hk0 : 0 < k
  · obtain ⟨b, off, e, _⟩ := hBy.at_ (by omega)
    injection e with e
    subst e
    by_cases hkc : k < cap0
    · refine mid b off len0 cap0 k a1 w U _ _ _ hU hLz hkz (by omega) (by omega) (by omega) hk0 (by omega) hkc hcap hmax hR hS hof hot fun w' hb => ?_
      have := more_any (bs := bs.drop k) (more 1 (bs.take k)) (len := len0 - k) (cap := cap0 - k) (by rw [List.length_drop]; omega) ((hBy.below hb).drop k) (by omega) (Nat.le_trans (Nat.sub_le _ _) hmax) (by omega)
      rw [more_parts] at this
      exact this
    · obtain rfl : len0 = cap0 := by omega
      obtain rfl : k = len0 := by omega
      refine whole b off k a1 w U _ _ hU hLz hkz (by omega) (by omega) (by omega) hk0 hR hof fun w' _ => ?_
      have := more_none (some ⟨b, off, none⟩) 0 (more 1 bs) w' (by omega)
      have e : more (more 1 bs) [] = more 1 bs := by rw [← more_append, List.append_nil]
      rw [e] at this
      exact this
  · obtain rfl : k = 0 := by omega
    refine first ad len0 cap0 a1 w U _ _ _ hU hLz hkz (by omega) (by omega) (by omega) hcap hmax hR hS hof hot fun w' hb => ?_
    have := more_any (bs := bs) (more 1 (bs.take 0)) (len := len0) (cap := cap0) hlen (hBy.below hb) hcap hmax (by omega)
    have e : more (more 1 (bs.take 0)) bs = more 1 bs := by rw [← more_append]; rfl
    rw [e] at this
    exact this
end Go.Proofs.Ytgnipdbghnngmaa.sumParts
