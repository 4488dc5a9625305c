/-
  Default, set, numberOf, ageOf, tierOf: what each returns at every argument; nothing that was there is written, but what set is told to.
-/
import Derived.Test.YtdpoahjgdndnhaaDoorPCut
import Derived.Laws.ResultCell
import Derived.Laws.Cover1
import Derived.Lib.MinMax
import Derived.Deep.DrawnRows
namespace Go.Proofs.YtdpoahjgdndnhaaDoor
open Go.RowKit
set_option linter.unusedVariables false

theorem past {w w2 w3 : World} (h : Below w.heap.size w w2) (h3 : Below w2.heap.size w2 w3) : Below w.heap.size w w3 := h.trans (h3.mono h.size)
theorem past_alloc {w w2 : World} (h : Below w.heap.size w w2) (o : Obj) : Below w.heap.size w (w2.alloc o) := h.alloc h.size o
theorem ret_bool {a b : Bool} (h : a = b) : Ending.returned (.bool a) = .returned (.bool b) := by rw [h]

def Pol.val (p : Pol) : Value := .agg #[.int .i64 p.a0, .int .i64 p.a1, .int .i64 p.a2, .int .i64 p.a3, .int .i64 p.cn, .int .i64 p.sp]

set_option maxRecDepth 100000 in
theorem default_any (w : World) : Calls Tryd.prog 38 #[] w fun e w' => e = .returned Pol.dflt.val ∧ Below w.heap.size w w' := by
  unfold Pol.val Pol.dflt
  go_enter Tryd.func38, Tryd.ntmps38
  go_wp2
  (try simp only [Exit.inBlock, Exit.then])
  refine bodyPost_ret (v := .agg #[.int .i64 60, .int .i64 600, .int .i64 6000, .int .i64 0, .int .i64 8, .int .i64 30]) ?_ rfl ⟨rfl, ?_⟩
  · simp [results, Tryd.results38, go_sem]
  · exact ((Below.refl _ _).alloc (Nat.le_refl _) _)

theorem min2 (ts : Array TypeId) (t : TypeId) (x y : Int) (W : World) : (Builtin.min_ ts t #[.int .i64 x, .int .i64 y]).run Tryd.prog W = .ok (.int .i64 (min x y)) W := Lib.run_min_ints W ts t .i64 .i64 x y

set_option maxRecDepth 100000 in
theorem set_count (g : Nat) (n v : Int) (w : World) (h : w.cell? ⟨g, 4, none⟩ = some (.int .i64 v)) (hf : w.frozen? ⟨g, 4, none⟩ = false) :
    Calls Tryd.prog 84 #[.pointer (some ⟨g, 0, none⟩), .int .i64 4, .int .i64 n] w fun e w' => e = .returned (.tuple #[]) ∧ w' = w.setCell ⟨g, 4, none⟩ (.int .i64 (min n 65)) := by
  have hm := fun ts t => min2 ts t n 65
  go_enter Tryd.func84, Tryd.ntmps84
  go_wp2
  refine bodyPost_end (v := .tuple #[]) ?_ rfl ⟨rfl, rfl⟩
  simp [results, Tryd.results84, go_sem]
set_option maxRecDepth 100000 in
theorem set_span (g : Nat) (n v : Int) (w : World) (h : w.cell? ⟨g, 5, none⟩ = some (.int .i64 v)) (hf : w.frozen? ⟨g, 5, none⟩ = false) :
    Calls Tryd.prog 84 #[.pointer (some ⟨g, 0, none⟩), .int .i64 5, .int .i64 n] w fun e w' => e = .returned (.tuple #[]) ∧ w' = w.setCell ⟨g, 5, none⟩ (.int .i64 n) := by
  go_enter Tryd.func84, Tryd.ntmps84
  go_wp2
  refine bodyPost_end (v := .tuple #[]) ?_ rfl ⟨rfl, rfl⟩
  simp [results, Tryd.results84, go_sem]
set_option maxRecDepth 100000 in
theorem set_age (g k : Nat) (n v : Int) (w : World) (hk : k < 4) (h : w.cell? ⟨g, k, none⟩ = some (.int .i64 v)) (hf : w.frozen? ⟨g, k, none⟩ = false) :
    Calls Tryd.prog 84 #[.pointer (some ⟨g, 0, none⟩), .int .i64 (k : Int), .int .i64 n] w fun e w' => e = .returned (.tuple #[]) ∧ w' = w.setCell ⟨g, k, none⟩ (.int .i64 n) := by
  have h1 : (k : Int) < 4 := by omega
  match k, hk with
  | 0, _ | 1, _ | 2, _ | 3, _ =>
    go_enter Tryd.func84, Tryd.ntmps84
    go_wp2
    refine bodyPost_end (v := .tuple #[]) ?_ rfl ⟨rfl, rfl⟩
    simp [results, Tryd.results84, go_sem]

set_option maxRecDepth 100000 in
theorem tierOf_any (l : List UInt8) (w : World) (hw : ∀ i, i < 4 → w.cell? ⟨0, i, none⟩ = some (str (nameAt i))) :
    Calls Tryd.prog 95 #[str l] w fun e w' => e = .returned (.tuple #[.int .i64 ((tier l).getD 0 : Nat), .bool (tier l).isSome]) ∧ w = w' := by
  have c0 := hw 0 (by decide)
  have c1 := hw 1 (by decide)
  have c2 := hw 2 (by decide)
  have c3 := hw 3 (by decide)
  unfold str at *
  simp only [nameAt] at c0 c1 c2 c3
  clear hw
  obtain ⟨r, hr⟩ : ∃ r, tier l = r := ⟨_, rfl⟩
  rw [hr]
  have HR := Lib.hid hr
  clear hr
  have i0 : ∀ w, (Instr.index 144 (.agg #[.string ⟨#[114, 97, 119]⟩, .string ⟨#[53, 109]⟩, .string ⟨#[49, 104]⟩, .string ⟨#[49, 100]⟩]) (.int .i64 0)).run Tryd.prog w = .ok (.string ⟨#[114, 97, 119]⟩) w := fun _ => by kernel_rfl
  have i1 : ∀ w, (Instr.index 144 (.agg #[.string ⟨#[114, 97, 119]⟩, .string ⟨#[53, 109]⟩, .string ⟨#[49, 104]⟩, .string ⟨#[49, 100]⟩]) (.int .i64 1)).run Tryd.prog w = .ok (.string ⟨#[53, 109]⟩) w := fun _ => by kernel_rfl
  have i2 : ∀ w, (Instr.index 144 (.agg #[.string ⟨#[114, 97, 119]⟩, .string ⟨#[53, 109]⟩, .string ⟨#[49, 104]⟩, .string ⟨#[49, 100]⟩]) (.int .i64 2)).run Tryd.prog w = .ok (.string ⟨#[49, 104]⟩) w := fun _ => by kernel_rfl
  have i3 : ∀ w, (Instr.index 144 (.agg #[.string ⟨#[114, 97, 119]⟩, .string ⟨#[53, 109]⟩, .string ⟨#[49, 104]⟩, .string ⟨#[49, 100]⟩]) (.int .i64 3)).run Tryd.prog w = .ok (.string ⟨#[49, 100]⟩) w := fun _ => by kernel_rfl
  obtain ⟨b0, h0⟩ : ∃ b0, ([114, 97, 119] == l) = b0 := ⟨_, rfl⟩
  obtain ⟨b1, h1⟩ : ∃ b1, ([53, 109] == l) = b1 := ⟨_, rfl⟩
  obtain ⟨b2, h2⟩ : ∃ b2, ([49, 104] == l) = b2 := ⟨_, rfl⟩
  obtain ⟨b3, h3⟩ : ∃ b3, ([49, 100] == l) = b3 := ⟨_, rfl⟩
  have HT : Hid (r = if b0 then some 0 else if b1 then some 1 else if b2 then some 2 else if b3 then some 3 else none) := Lib.hid (by
    rw [← HR.out, ← h0, ← h1, ← h2, ← h3]
    unfold tier nameAt
    simp only [beq_iff_eq])
  cases b0
  case true =>
    go_enter Tryd.func95, Tryd.ntmps95
    go_wp2
    refine wp_loop_rounds 5 ?_
    rw [rounds_succ]
    go_wp2
    (try rw [Exit.noGoto_ret])
    go_ret2
    exact ⟨by rw [HT.out]; rfl, rfl⟩
  cases b1
  case true =>
    go_enter Tryd.func95, Tryd.ntmps95
    go_wp2
    refine wp_loop_rounds 5 ?_
    rw [rounds_succ]
    go_wp2
    rw [rounds_succ]
    go_wp2
    (try rw [Exit.noGoto_ret])
    go_ret2
    exact ⟨by rw [HT.out]; rfl, rfl⟩
  cases b2
  case true =>
    go_enter Tryd.func95, Tryd.ntmps95
    go_wp2
    refine wp_loop_rounds 5 ?_
    rw [rounds_succ]
    go_wp2
    rw [rounds_succ]
    go_wp2
    rw [rounds_succ]
    go_wp2
    (try rw [Exit.noGoto_ret])
    go_ret2
    exact ⟨by rw [HT.out]; rfl, rfl⟩
  cases b3
  case true =>
    go_enter Tryd.func95, Tryd.ntmps95
    go_wp2
    refine wp_loop_rounds 5 ?_
    rw [rounds_succ]
    go_wp2
    rw [rounds_succ]
    go_wp2
    rw [rounds_succ]
    go_wp2
    rw [rounds_succ]
    go_wp2
    (try rw [Exit.noGoto_ret])
    go_ret2
    exact ⟨by rw [HT.out]; rfl, rfl⟩
  go_enter Tryd.func95, Tryd.ntmps95
  go_wp2
  refine wp_loop_rounds 5 ?_
  rw [rounds_succ]
  go_wp2
  rw [rounds_succ]
  go_wp2
  rw [rounds_succ]
  go_wp2
  rw [rounds_succ]
  go_wp2
  rw [rounds_succ]
  go_wp2
  (try rw [Exit.noGoto_ret])
  go_ret2
  exact ⟨by rw [HT.out]; rfl, rfl⟩

theorem numOn_cons {n : Int} {c : UInt8} {r : List UInt8} (h : dig c = true) : numOn n (c :: r) = numOn (10 * n + ((c.toNat : Int) - 48)) r := by simp [numOn, h]
theorem numOn_stop {n : Int} {c : UInt8} {r : List UInt8} (h : dig c = false) : numOn n (c :: r) = none := by simp [numOn, h]
theorem ret2 {a b a' b' : Value} (h1 : a = a') (h2 : b = b') : Ending.returned (.tuple #[a, b]) = .returned (.tuple #[a', b']) := by rw [h1, h2]

set_option maxRecDepth 100000 in
set_option maxHeartbeats 1000000 in
theorem numberOf_in (l : List UInt8) (w : World) (h1 : 1 ≤ l.length) (h13 : l.length ≤ 13) :
    Calls Tryd.prog 97 #[str l] w fun e w' => e = .returned (.tuple #[.int .i64 ((numOn 0 l).getD 0), .bool (numOn 0 l).isSome]) ∧ w = w' := by
  unfold str
  have hs : (ByteArray.mk l.toArray).size = l.length := by simp [ByteArray.size]
  obtain ⟨s, hs'⟩ : ∃ s, s = ByteArray.mk l.toArray := ⟨_, rfl⟩
  rw [← hs'] at hs ⊢
  have HS : Hid (∀ k (h : k < s.size) (h' : k < l.length), s[k] = l[k]) := Lib.hid (fun k h h' => by subst hs'; rfl)
  obtain ⟨r, hr⟩ : ∃ r, numOn 0 l = r := ⟨_, rfl⟩
  rw [hr]
  have HR := Lib.hid hr
  have HL := Lib.hid hs
  have h0 : (1 : Int) ≤ (s.size : Int) := by omega
  have h14 : (s.size : Int) ≤ 13 := by omega
  clear hs' hr h1 h13 hs
  go_enter Tryd.func97, Tryd.ntmps97
  go_wp2
  go_loopw [17, 4] (fun si sn wr => ∃ (k : Nat) (n : Int), k ≤ s.size ∧ si = .int .i64 (k : Int) ∧ sn = .int .i64 n ∧ Hid (r = numOn n (l.drop k)) ∧ Hid (0 ≤ n ∧ n < 10 ^ k) ∧ w = wr) (fun si _ _ => s.size - (intOf si).toNat)
  case atStart => exact ⟨0, 0, by omega, rfl, rfl, Lib.hid HR.out.symm, Lib.hid (by decide), rfl⟩
  case round =>
    obtain ⟨k, n, hk, rfl, rfl, HN, HB, rfl⟩ := hrel
    by_cases hlt : k < s.size
    · have hlk : k < l.length := by rw [← HL.out]; exact hlt
      have e := HS.out k hlt hlk
      have ed : l.drop k = l[k] :: l.drop (k + 1) := List.drop_eq_getElem_cons hlk
      generalize l[k] = c at e ed
      have HN' := HN.out
      rw [ed] at HN'
      obtain ⟨d, hd⟩ : ∃ d : Int, (c.toNat : Int) = d := ⟨_, rfl⟩
      have hc : (s[k].toNat : Int) = d := by rw [e]; exact hd
      have hd0 : 0 ≤ d := by omega
      by_cases hg : dig c = true
      · have hdig := hg
        unfold dig at hdig
        simp only [Bool.and_eq_true, decide_eq_true_eq] at hdig
        have HB' : 0 ≤ n ∧ n < 1000000000000 := by
          have hb := HB.out
          have hp : (10 : Nat) ^ k ≤ 10 ^ 12 := Nat.pow_le_pow_right (by decide) (by omega)
          have h12 : (10 : Nat) ^ 12 = 1000000000000 := by decide
          have : ((10 : Int)) ^ k = ((10 ^ k : Nat) : Int) := by simp
          omega
        rw [numOn_cons hg, hd] at HN'
        have HN2 : Hid (r = numOn (10 * n + (d - 48)) (l.drop (k + 1))) := Lib.hid HN'
        have HB2 : Hid (0 ≤ 10 * n + (d - 48) ∧ 10 * n + (d - 48) < 10 ^ (k + 1)) := Lib.hid (by
          have hb := HB.out
          rw [Int.pow_succ]
          omega)
        obtain ⟨hn0, hn1⟩ := HB'
        have g1 : 48 ≤ d := by omega
        have g2 : d ≤ 57 := by omega
        have w1 : IntKind.i64.wrap (10 * n) = 10 * n := by rw [IntKind.wrap_i64]; omega
        have w2 : IntKind.u8.wrap (d - 48) = d - 48 := by rw [IntKind.wrap_u8]; omega
        have w3 : IntKind.i64.wrap (d - 48) = d - 48 := by rw [IntKind.wrap_i64]; omega
        have w4 : IntKind.i64.wrap (10 * n + (d - 48)) = 10 * n + (d - 48) := by rw [IntKind.wrap_i64]; omega
        clear HN' hdig hg hd e ed
        go_wp2
        go_roundw
        case rel => exact ⟨k + 1, 10 * n + (d - 48), by omega, by go_num, by go_num, HN2, HB2, trivial⟩
        case measure => simp [intOf]; omega
      · have hg' : dig c = false := by simpa using hg
        rw [numOn_stop hg'] at HN'
        have HN2 := Lib.hid HN'
        unfold dig at hg'
        rw [Bool.and_eq_false_iff, decide_eq_false_iff_not, decide_eq_false_iff_not] at hg'
        rcases hg' with h | h
        · have g1 : d < 48 := by omega
          clear HN' hg hd e ed h
          go_wp2
          (try rw [Exit.noGoto_ret])
          go_ret2
          exact ⟨by rw [HN2.out]; rfl, rfl⟩
        · have g1 : 57 < d := by omega
          clear HN' hg hd e ed h
          go_wp2
          (try rw [Exit.noGoto_ret])
          go_ret2
          exact ⟨by rw [HN2.out]; rfl, rfl⟩
    · have HN2 : Hid (r = some n) := Lib.hid (by
        rw [HN.out, List.drop_eq_nil_of_le (by rw [← HL.out]; omega)]
        rfl)
      go_wp2
      (try rw [Exit.noGoto_ret])
      go_ret2
      exact ⟨by rw [HN2.out]; rfl, rfl⟩

set_option maxRecDepth 100000 in
theorem numberOf_short (w : World) : Calls Tryd.prog 97 #[str []] w fun e w' => e = .returned (.tuple #[.int .i64 0, .bool false]) ∧ w = w' := by
  unfold str
  go_enter Tryd.func97, Tryd.ntmps97
  go_wp2
  (try rw [Exit.noGoto_ret])
  go_ret2
  exact ⟨rfl, rfl⟩
set_option maxRecDepth 100000 in
theorem numberOf_long (s : ByteArray) (w : World) (h : (13 : Int) < (s.size : Int)) : Calls Tryd.prog 97 #[.string s] w fun e w' => e = .returned (.tuple #[.int .i64 0, .bool false]) ∧ w = w' := by
  go_enter Tryd.func97, Tryd.ntmps97
  go_wp2
  all_goals
    (try rw [Exit.noGoto_ret])
    go_ret2
    exact ⟨rfl, rfl⟩
theorem numberOf_any (l : List UInt8) (w : World) : Calls Tryd.prog 97 #[str l] w fun e w' => e = .returned (.tuple #[.int .i64 ((num l).getD 0), .bool (num l).isSome]) ∧ w = w' := by
  by_cases h : 1 ≤ l.length ∧ l.length ≤ 13
  · unfold num
    rw [if_pos h]
    exact numberOf_in l w h.1 h.2
  · unfold num
    rw [if_neg h]
    by_cases h1 : 1 ≤ l.length
    · exact numberOf_long _ w (by simp [ByteArray.size]; omega)
    · obtain rfl : l = [] := List.eq_nil_of_length_eq_zero (by omega)
      exact numberOf_short w

set_option maxRecDepth 100000 in
theorem ageOf_any (l : List UInt8) (w : World) : Calls Tryd.prog 96 #[str l] w fun e w' => e = .returned (.tuple #[.int .i64 ((age l).getD 0), .bool (age l).isSome]) ∧ w = w' := by
  have M := Lib.hid (fun w => numberOf_any l w)
  unfold str at *
  obtain ⟨b0, h0⟩ : ∃ b0, (l == [101, 118, 101, 114]) = b0 := ⟨_, rfl⟩
  have HT : Hid (age l = if b0 then some 0 else num l) := Lib.hid (by
    rw [← h0]
    unfold age ever
    simp only [beq_iff_eq])
  rw [HT.out]
  clear HT
  cases b0
  case true =>
    go_enter Tryd.func96, Tryd.ntmps96
    go_wp2
    (try rw [Exit.noGoto_ret])
    go_ret2
    exact ⟨rfl, rfl⟩
  simp only [Bool.false_eq_true, if_false]
  generalize (num l).getD 0 = n at *
  generalize (num l).isSome = b at *
  go_enter Tryd.func96, Tryd.ntmps96
  go_wp2_with fail
  refine (M.out _).mono ?_
  rintro e w' ⟨rfl, rfl⟩
  go_wp2
  (try rw [Exit.noGoto_ret])
  go_ret2
  exact ⟨rfl, rfl⟩
end Go.Proofs.YtdpoahjgdndnhaaDoor
