/-
  The walk of FoldParts: it returns true, and writes nothing that was there.
-/
import Derived.Test.YtoohokflendibaaWalkFoldThrees
import Derived.Test.YtoohokflendibaaParts
namespace Go.Proofs.Ytoohokflendibaa
open Go.RowKit

theorem wrap_nat (a : Int) : ∃ U : Nat, IntKind.u64.wrap a = (U : Int) := by
  refine ⟨(IntKind.u64.wrap a).toNat, ?_⟩
  rw [IntKind.wrap_u64]
  omega

namespace foldParts
theorem parts_list (l : List (Int × Int)) (k : Nat) (hk : 1 ≤ k) (hkl : k < l.length) (hl : l.length ≤ 1000) :
    ((all 7 ((l.take k).map (·.2))).2 = 0 ∨ (all 7 ((l.take k).map (·.2))).2 = 3) ∧ ((all 9 ((l.drop k).map (·.2))).2 = 0 ∨ (all 9 ((l.drop k).map (·.2))).2 = 3) ∧ ((all 7 (l.map (·.2))).2 = 0 ∨ (all 7 (l.map (·.2))).2 = 3) ∧
    ((all 7 ((l.take k).map (·.2))).2 = 0 → (all 9 ((l.drop k).map (·.2))).2 = 0 → (all 7 (l.map (·.2))).2 = 0 → (join (all 7 ((l.take k).map (·.2))).1 (all 9 ((l.drop k).map (·.2))).1).2 = 0 →
      (all 7 (l.map (·.2))).1 = (join (all 7 ((l.take k).map (·.2))).1 (all 9 ((l.drop k).map (·.2))).1).1) := by
  have e : l.map (·.2) = (l.take k).map (·.2) ++ (l.drop k).map (·.2) := by rw [← List.map_append, List.take_append_drop]
  rw [e]
  have h1 : (l.take k).length = k := by rw [List.length_take]; omega
  have h2 : (l.drop k).length = l.length - k := by rw [List.length_drop]
  generalize l.take k = xs at *
  generalize l.drop k = ys at *
  match xs, ys, h1, h2 with
  | x :: xs, y :: ys, h1, h2 =>
    simp only [List.length_cons] at h1 h2
    exact parts_says 7 9 (by decide) (by decide) x.2 y.2 (xs.map (·.2)) (ys.map (·.2)) (by rw [List.length_map]; omega) (by rw [List.length_map]; omega)
  | [], _, h1, _ => simp at h1; omega
  | _, [], _, h2 => simp at h2; omega

set_option maxRecDepth 100000 in
set_option maxHeartbeats 2000000 in
theorem walk (a0 : Option Addr) (len0 cap0 : Nat) (l : List (Int × Int)) (a1 : Int) (w : World) (s0 : l.length = len0 ∧ Samps w a0 l ∧ len0 ≤ cap0 ∧ cap0 ≤ maxLen ∧ (a0 = none → cap0 = 0)) (_w1 : (Lit.int .i64 a1).wf = true) :
    Calls Try.prog 3 #[.slice a0 len0 cap0, .int .i64 a1] w fun e w' => e = .returned (.bool true) ∧ Below w.heap.size w w' := by
  obtain ⟨hlen, hS, hcap, hmax, hnone⟩ := s0
  by_cases h1 : len0 < 2
  · clear hlen hS hmax
    go_enter Try.func3, Try.ntmps3
    go_wp2_with fail
    refine (told_any _).mono ?_
    rintro e wt ⟨rfl, hbt⟩
    go_wp2
    go_ret
    exact ⟨rfl, hbt⟩
  by_cases h60 : 60 < len0
  · clear hlen hS hmax
    go_enter Try.func3, Try.ntmps3
    go_wp2_with fail
    refine (told_any _).mono ?_
    rintro e wt ⟨rfl, hbt⟩
    go_wp2
    go_ret
    exact ⟨rfl, hbt⟩
  obtain ⟨n, rfl⟩ : ∃ n, len0 = n + 1 := ⟨len0 - 1, by omega⟩
  obtain ⟨b, off, rfl, _⟩ := hS.2 (by omega)
  obtain ⟨U, hU⟩ := wrap_nat a1
  obtain ⟨m, hm⟩ : ∃ m, U % n = m := ⟨_, rfl⟩
  have hmn : m < n := hm ▸ Nat.mod_lt U (by omega)
  have hmz : (U : Int) % (n : Int) = (m : Int) := by rw [← hm]; simp
  clear hm
  obtain ⟨k, hk⟩ : ∃ k, k = m + 1 := ⟨_, rfl⟩
  have hkw : IntKind.i64.wrap (1 + (m : Int)) = (k : Int) := by
    rw [IntKind.wrap_i64]
    omega
  have hk1 : 1 ≤ k := by omega
  have hkn : k ≤ n := by omega
  have hke : (1 : Int) + (m : Int) = (k : Int) := by omega
  have hmw : IntKind.i64.wrap (m : Int) = (m : Int) := by rw [IntKind.wrap_i64]; omega
  clear hk
  have hp := parts_list l k hk1 (by omega) (by omega)
  have hmem : ∀ v ∈ l.map (·.2), In64 v := by
    intro v hv
    obtain ⟨s, hs, rfl⟩ := List.mem_map.1 hv
    exact (hS.1 s hs).2
  have kA := all_ok 7 (by decide) ((l.take k).map (·.2)) (fun v hv => hmem v (by
    rw [List.map_take] at hv
    exact List.mem_of_mem_take hv))
  have kB := all_ok 9 (by decide) ((l.drop k).map (·.2)) (fun v hv => hmem v (by
    rw [List.map_drop] at hv
    exact List.mem_of_mem_drop hv))
  have jA := fun w' (hb : Below w.heap.size w w') => all_any (l := l.take k) (len := k) (cap := cap0) 7 (by rw [List.length_take]; omega) hk1 ((hS.below hb).take k) (by omega) hmax (by decide)
  have jB := fun w' (hb : Below w.heap.size w w') => all_any (l := l.drop k) (len := n + 1 - k) (cap := cap0 - k) 9 (by rw [List.length_drop]; omega) (by omega) ((hS.below hb).drop k) (by omega) (by unfold maxLen at *; omega) (by decide)
  have jC := fun w' (hb : Below w.heap.size w w') => all_any (l := l) (len := n + 1) (cap := cap0) 7 hlen (by omega) (hS.below hb) hcap hmax (by decide)
  generalize all 7 ((l.take k).map (·.2)) = A at *
  generalize all 9 ((l.drop k).map (·.2)) = B at *
  generalize all 7 (l.map (·.2)) = C at *
  obtain ⟨a, ca⟩ := A
  obtain ⟨d, cd⟩ := B
  obtain ⟨c, cc⟩ := C
  simp only at hp kA kB jA jB jC
  have jD := fun w => join_any a d w kA kB
  generalize join a d = D at *
  obtain ⟨j, cj⟩ := D
  simp only at hp jD
  have HP := Lib.hid hp
  have JA := Lib.hid jA
  have JB := Lib.hid jB
  have JC := Lib.hid jC
  have JD := Lib.hid jD
  unfold Ag.val at JA JB JC JD
  have i1 : (k : Int) ≤ (cap0 : Int) := by omega
  have i2 : (k : Int) < (cap0 : Int) := by omega
  have i3 : (k : Int) ≤ (n : Int) + 1 := by omega
  unfold maxLen at hmax
  clear hp jA jB jC jD kA kB hmem hS hlen hnone
  go_enter Try.func3, Try.ntmps3
  go_wp2_with fail
  refine (JA.out _ (Below.refl _ _)).mono ?_
  rintro e w2 ⟨rfl, hb2⟩
  have F2 := Lib.hid hb2
  have N2 := Lib.hid (Holds.new w2 a)
  clear hb2
  go_wp2_with fail
  refine (JB.out _ (past_alloc F2.out _)).mono ?_
  rintro e w3 ⟨rfl, hb3⟩
  have F3 : Hid (Holds w3 w2.heap.size a ∧ Below w.heap.size w w3) := Lib.hid ⟨N2.out.below hb3, past (past_alloc F2.out _) hb3⟩
  have N3 := Lib.hid (Holds.new w3 d)
  clear hb3 F2 N2
  generalize w2.heap.size = ga at *
  go_wp2_with fail
  refine (JC.out _ (past_alloc F3.out.2 _)).mono ?_
  rintro e w4 ⟨rfl, hb4⟩
  have F4 : Hid (Holds w4 ga a ∧ Holds w4 w3.heap.size d ∧ Below w.heap.size w w4) := Lib.hid ⟨(F3.out.1.past _).below hb4, N3.out.below hb4, past (past_alloc F3.out.2 _) hb4⟩
  have N4 := Lib.hid (Holds.new w4 c)
  clear hb4 F3 N3
  generalize w3.heap.size = gd at *
  obtain ⟨a0, a1, a2, a3, a4, a5, a6⟩ := F4.out.1
  obtain ⟨d0, d1, d2, d3, d4, d5, d6⟩ := F4.out.2.1
  have hlt := F4.out.1.lt
  have hlt' := F4.out.2.1.lt
  go_wp2_with fail
  refine (JD.out _).mono ?_
  rintro e w5 ⟨rfl, hb5⟩
  clear a0 a1 a2 a3 a4 a5 a6 d0 d1 d2 d3 d4 d5 d6 hlt hlt'
  have F5 : Hid (Holds w5 w4.heap.size c ∧ True ∧ Below w.heap.size w w5) := Lib.hid ⟨N4.out.below hb5, trivial, past (past_alloc F4.out.2.2 _) hb5⟩
  clear hb5 F4 N4 JA JB JC JD
  generalize w4.heap.size = gc at *
  have N5 := Lib.hid (Holds.new w5 j)
  obtain ⟨p1, p2, p3, p4⟩ := HP.out
  have P4 := Lib.hid p4
  clear p4 HP
  by_cases he : ca = 0
  case neg =>
    obtain rfl : ca = 3 := p1.resolve_left he
    clear he p1
    rcases p2 with rfl | rfl <;> rcases p3 with rfl | rfl
    all_goals
      go_wp2_with fail
      refine (told_any _).mono ?_
      rintro e wt ⟨rfl, hbt⟩
      go_wp2
      go_ret
      exact ⟨rfl, past (past_alloc F5.out.2.2 _) hbt⟩
  by_cases hf : cd = 0
  case neg =>
    obtain rfl : cd = 3 := p2.resolve_left hf
    subst he
    clear hf p1 p2
    rcases p3 with rfl | rfl
    all_goals
      go_wp2_with fail
      refine (told_any _).mono ?_
      rintro e wt ⟨rfl, hbt⟩
      go_wp2
      go_ret
      exact ⟨rfl, past (past_alloc F5.out.2.2 _) hbt⟩
  by_cases hg : cc = 0
  case neg =>
    obtain rfl : cc = 3 := p3.resolve_left hg
    subst he hf
    clear hg p1 p2 p3
    go_wp2_with fail
    refine (told_any _).mono ?_
    rintro e wt ⟨rfl, hbt⟩
    go_wp2
    go_ret
    exact ⟨rfl, past (past_alloc F5.out.2.2 _) hbt⟩
  by_cases hh : cj = 0
  case neg =>
    have t : (cj == 0) = false := by simpa using hh
    subst he hf hg
    clear p1 p2 p3
    go_wp2_with fail
    refine (told_any _).mono ?_
    rintro e wt ⟨rfl, hbt⟩
    go_wp2
    go_ret
    exact ⟨rfl, past (past_alloc F5.out.2.2 _) hbt⟩
  have hcj := P4.out he hf hg hh
  subst he hf hg hh
  subst hcj
  clear p1 p2 p3
  go_wp2_with fail
  refine (told_any _).mono ?_
  rintro e wt ⟨rfl, hbt⟩
  obtain ⟨c0, c1, c2, c3, c4, c5, c6⟩ := (F5.out.1.past _).below hbt
  obtain ⟨d0, d1, d2, d3, d4, d5, d6⟩ := N5.out.below hbt
  have HT := Lib.hid (past (past_alloc F5.out.2.2 _) hbt)
  clear hbt F5 N5
  generalize w5.heap.size = gj at *
  go_wp2
  go_ret
  exact ⟨rfl, HT.out⟩
end foldParts
end Go.Proofs.Ytoohokflendibaa
