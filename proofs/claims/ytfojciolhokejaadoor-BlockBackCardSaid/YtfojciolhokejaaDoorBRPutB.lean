/-
  The document's own answer for windows' bytes, of every row of windows.
-/
import Derived.Test.YtfojciolhokejaaDoorBRPutA
namespace Go.Proofs.YtfojciolhokejaaDoor
open Go.RowKit
attribute [local go_sem ↓] Go.wp_at_zero Go.wp_at_succ
set_option linter.unusedVariables false

instance (k : Int) (l : List Ag) : Decidable (AOk k l) := by unfold AOk; infer_instance

set_option maxRecDepth 100000 in
theorem rputaggs_none (A : Option Addr) (cap : Nat) (k : Int) (w : World) (hm : cap ≤ maxLen) (hk : coarse k) :
    Calls Tryd.prog 14 #[.slice A 0 cap, .int .i64 k] w fun e w' => e = .returned (.tuple #[.string (strB (putA (wid k) [])), .int .i64 0]) ∧ Below w.heap.size w w' := by
  have m0 := fun w => raligned_any (A := A) (l := []) (len := 0) (cap := cap) (w := w) k rfl ⟨by simp, fun h => absurd h (by simp)⟩ (by omega) hm
  rw [decide_eq_true (show Align [] k from ⟨hk, fun i hi => by simp at hi⟩)] at m0
  have M0 := Lib.hid m0
  have M1 : Hid (∀ w, Calls Tryd.prog 26 #[.int .u64 0] w fun e w' => e = .returned (.string (strB (enc 0))) ∧ Below w.heap.size w w') := Lib.hid (fun w => refput_any 0 w (by decide))
  have HP : Hid (putA (wid k) [] = enc 0) := Lib.hid (by simp [putA, aOn, bytesOf])
  rw [HP.out]
  generalize strB (enc 0) = S0 at *
  clear m0 hm
  go_enter Tryd.func14, Tryd.ntmps14
  go_wp2_with fail
  refine (M0.out _).mono ?_
  rintro e w1 ⟨rfl, hb1⟩
  have HB1 := Lib.hid hb1
  clear hb1
  go_wp2_with fail
  refine (M1.out _).mono ?_
  rintro e w2 ⟨rfl, hb2⟩
  have HB2 : Hid (Below w.heap.size w w2) := Lib.hid (past HB1.out hb2)
  clear hb2
  go_wp2
  refine wp_loop_rounds 1 ?_
  rw [rounds_succ]
  go_wp2
  (try rw [Exit.noGoto_ret])
  go_ret2
  exact ⟨rfl, HB2.out⟩

set_option maxRecDepth 100000 in
theorem rputaggs_not {A : Option Addr} {len cap : Nat} {l : List Ag} {w : World} (k : Int) (hl : l.length = len) (hS : Aggs w A l) (hc : len ≤ cap) (hm : cap ≤ maxLen) (h : ¬ AOk k l) :
    Calls Tryd.prog 14 #[.slice A len cap, .int .i64 k] w fun e w' => e = .returned (.tuple #[.string (strB []), .int .i64 1]) ∧ Below w.heap.size w w' := by
  have m0 := raligned_any k hl hS hc hm
  have HE : Hid (strB [] = ⟨#[]⟩) := Lib.hid rfl
  by_cases hr : Align l k
  · have h64 : (64 : Int) < (len : Int) := by
      have : ¬ l.length ≤ 64 := fun h' => h ⟨hr, h'⟩
      omega
    rw [decide_eq_true hr] at m0
    have M0 := Lib.hid m0
    clear m0 hr h hS hl hc hm
    rw [HE.out]
    go_enter Tryd.func14, Tryd.ntmps14
    go_wp2_with fail
    refine M0.out.mono ?_
    rintro e w1 ⟨rfl, hb1⟩
    have HB1 := Lib.hid hb1
    clear hb1
    go_wp2
    (try rw [Exit.noGoto_ret])
    go_ret2
    exact ⟨rfl, HB1.out⟩
  · rw [decide_eq_false hr] at m0
    have M0 := Lib.hid m0
    clear m0 hr h hS hl hc hm
    rw [HE.out]
    go_enter Tryd.func14, Tryd.ntmps14
    go_wp2_with fail
    refine M0.out.mono ?_
    rintro e w1 ⟨rfl, hb1⟩
    have HB1 := Lib.hid hb1
    clear hb1
    go_wp2
    (try rw [Exit.noGoto_ret])
    go_ret2
    exact ⟨rfl, HB1.out⟩

theorem rputaggs_any {A : Option Addr} {len cap : Nat} {l : List Ag} {w : World} (k : Int) (hl : l.length = len) (hS : Aggs w A l) (hc : len ≤ cap) (hm : cap ≤ maxLen) :
    Calls Tryd.prog 14 #[.slice A len cap, .int .i64 k] w fun e w' => e = .returned (.tuple #[.string (strB (if AOk k l then putA (wid k) l else [])), .int .i64 (if AOk k l then 0 else 1)]) ∧ Below w.heap.size w w' := by
  by_cases h : AOk k l
  · rw [if_pos h, if_pos h]
    have hk := h.1.1
    by_cases h0 : 0 < len
    · obtain ⟨b, off, rfl, _⟩ := hS.2 (by omega)
      exact rputaggs_in b off len cap l k w hl hS hc hm h (by unfold coarse at hk; unfold In64; omega)
    · obtain rfl : len = 0 := by omega
      obtain rfl : l = [] := List.eq_nil_of_length_eq_zero hl
      exact rputaggs_none A cap k w hm hk
  · rw [if_neg h, if_neg h]
    exact rputaggs_not k hl hS hc hm h
end Go.Proofs.YtfojciolhokejaaDoor
