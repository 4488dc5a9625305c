/-
  read: what every row of words says; nothing is written.
-/
import Derived.Test.YtdpoahjgdndnhaaDoorPWords
namespace Go.Proofs.YtdpoahjgdndnhaaDoor
open Go.RowKit
set_option linter.unusedVariables false

/-- The table of names. -/
def Nam (w : World) : Prop := ∀ i, i < 4 → w.cell? ⟨0, i, none⟩ = some (str (nameAt i))
theorem read_few (A : Option Addr) (n cap : Nat) (w : World) (h3 : n ≠ 3) (h2 : n ≠ 2) :
    Calls Tryd.prog 83 #[.slice A n cap] w fun e w' => e = .returned (.tuple #[.int .i64 0, .int .i64 0, .bool false]) ∧ w = w' := by
  have e3 : ((n : Int) == 3) = false := by simp; omega
  have e2 : ((n : Int) == 2) = false := by simp; omega
  clear h3 h2
  go_enter Tryd.func83, Tryd.ntmps83
  go_wp2
  go_ret3
  exact ⟨rfl, rfl⟩

set_option maxRecDepth 100000 in
set_option maxHeartbeats 1000000 in
theorem read_three (g cap : Nat) (a b c : List UInt8) (w : World) (hw : Nam w)
    (c0 : w.cell? ⟨g, 0, none⟩ = some (str a)) (c1 : w.cell? ⟨g, 1, none⟩ = some (str b)) (c2 : w.cell? ⟨g, 2, none⟩ = some (str c)) :
    Calls Tryd.prog 83 #[.slice (some ⟨g, 0, none⟩) 3 cap] w fun e w' => e = .returned (.tuple #[.int .i64 ((readR [a, b, c]).1 : Nat), .int .i64 (readR [a, b, c]).2.1, .bool (readR [a, b, c]).2.2]) ∧ w = w' := by
  have M1 := Lib.hid (tierOf_any b w hw)
  have M2 := Lib.hid (ageOf_any c w)
  unfold str at *
  obtain ⟨b0, h0⟩ : ∃ b0, (a == [107, 101, 101, 112]) = b0 := ⟨_, rfl⟩
  have HT : Hid (readR [a, b, c] = if b0 then ((tier b).getD 0, (age c).getD 0, (tier b).isSome && (age c).isSome) else (0, 0, false)) := Lib.hid (by
    rw [← h0]
    unfold readR keep
    simp only [beq_iff_eq])
  rw [HT.out]
  clear HT hw
  cases b0
  case false =>
    go_enter Tryd.func83, Tryd.ntmps83
    go_wp2
    go_ret3
    exact ⟨rfl, rfl⟩
  simp only [if_true]
  generalize (tier b).getD 0 = k at *
  generalize (age c).getD 0 = n at *
  generalize (age c).isSome = x2 at *
  generalize (tier b).isSome = x1 at *
  go_enter Tryd.func83, Tryd.ntmps83
  go_wp2_with fail
  refine M1.out.mono ?_
  rintro e w' ⟨rfl, rfl⟩
  go_wp2_with fail
  refine M2.out.mono ?_
  rintro e w' ⟨rfl, rfl⟩
  cases x1 <;> cases x2
  all_goals
    go_wp2
    go_ret3
    exact ⟨rfl, rfl⟩

set_option maxRecDepth 100000 in
set_option maxHeartbeats 1000000 in
theorem read_two (g cap : Nat) (a b : List UInt8) (w : World)
    (c0 : w.cell? ⟨g, 0, none⟩ = some (str a)) (c1 : w.cell? ⟨g, 1, none⟩ = some (str b)) :
    Calls Tryd.prog 83 #[.slice (some ⟨g, 0, none⟩) 2 cap] w fun e w' => e = .returned (.tuple #[.int .i64 ((readR [a, b]).1 : Nat), .int .i64 (readR [a, b]).2.1, .bool (readR [a, b]).2.2]) ∧ w = w' := by
  have M1 := Lib.hid (numberOf_any b w)
  unfold str at *
  obtain ⟨b0, h0⟩ : ∃ b0, (a == [115, 101, 97, 108]) = b0 := ⟨_, rfl⟩
  obtain ⟨b1, h1⟩ : ∃ b1, (a == [115, 112, 97, 110]) = b1 := ⟨_, rfl⟩
  have HT : Hid (readR [a, b] = if b0 then (4, (num b).getD 0, (num b).isSome) else if b1 then (5, (num b).getD 0, (num b).isSome) else (0, 0, false)) := Lib.hid (by
    rw [← h0, ← h1]
    unfold readR sealB span
    simp only [beq_iff_eq])
  rw [HT.out]
  clear HT
  generalize (num b).getD 0 = n at *
  generalize (num b).isSome = x1 at *
  cases b0
  case true =>
    clear h1
    go_enter Tryd.func83, Tryd.ntmps83
    go_wp2_with fail
    refine M1.out.mono ?_
    rintro e w' ⟨rfl, rfl⟩
    go_wp2
    go_ret3
    exact ⟨rfl, rfl⟩
  cases b1
  case true =>
    go_enter Tryd.func83, Tryd.ntmps83
    go_wp2_with fail
    refine M1.out.mono ?_
    rintro e w' ⟨rfl, rfl⟩
    go_wp2
    go_ret3
    exact ⟨rfl, rfl⟩
  go_enter Tryd.func83, Tryd.ntmps83
  go_wp2
  go_ret3
  exact ⟨rfl, rfl⟩

theorem read_any {base : Nat} (ws : List (List UInt8)) (v : Value) (w : World) (hw : Nam w) (h : w.ownsRow base 9 1 v ws.length (strsV ws)) :
    Calls Tryd.prog 83 #[v] w fun e w' => e = .returned (.tuple #[.int .i64 ((readR ws).1 : Nat), .int .i64 (readR ws).2.1, .bool (readR ws).2.2]) ∧ w = w' := by
  match ws, h with
  | [], h =>
    rcases h.2 with ⟨rfl, _⟩ | ⟨g, cap, cur, rfl, _⟩
    · exact read_few _ 0 0 w (by decide) (by decide)
    · exact read_few _ 0 _ w (by decide) (by decide)
  | [a], h =>
    rcases h.2 with ⟨_, h0⟩ | ⟨g, cap, cur, rfl, _⟩
    · simp at h0
    · exact read_few _ 1 _ w (by decide) (by decide)
  | [a, b], h =>
    rcases h.2 with ⟨_, h0⟩ | ⟨g, cap, cur, rfl, _⟩
    · simp at h0
    · exact read_two g cap a b w (h.cellAt 0 (by simp)) (h.cellAt 1 (by simp))
  | [a, b, c], h =>
    rcases h.2 with ⟨_, h0⟩ | ⟨g, cap, cur, rfl, _⟩
    · simp at h0
    · exact read_three g cap a b c w hw (h.cellAt 0 (by simp)) (h.cellAt 1 (by simp)) (h.cellAt 2 (by simp))
  | a :: b :: c :: d :: t, h =>
    rcases h.2 with ⟨_, h0⟩ | ⟨g, cap, cur, rfl, _⟩
    · simp at h0
    · exact read_few _ _ _ w (by simp) (by simp)
end Go.Proofs.YtdpoahjgdndnhaaDoor
