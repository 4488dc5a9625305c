/-
  The walk of HeadFull: it returns true, and writes nothing that was there.
-/
import Derived.Test.YtinplchaimejbaaHArgs
namespace Go.Proofs.Ytinplchaimejbaa.headFull
open Go.RowKit
attribute [local go_sem ↓] Go.wp_at_zero Go.wp_at_succ
set_option linter.unusedVariables false

def full : Nat → List (Int × Int)
  | 0 => []
  | m + 1 => full m ++ [(3 * (m : Int), 0)]
theorem full_len : ∀ m, (full m).length = m
  | 0 => rfl
  | m + 1 => by show (full m ++ [_]).length = _; rw [List.length_append, full_len m]; rfl
theorem full_lt : ∀ m, ∀ s ∈ full m, 0 ≤ s.1 ∧ s.1 < 3 * (m : Int)
  | 0, s, hs => by simp [full] at hs
  | m + 1, s, hs => by
    have ih := full_lt m
    rw [full, List.mem_append, List.mem_singleton] at hs
    rcases hs with hs | rfl
    · have := ih s hs
      omega
    · simp only; omega
theorem full_pair : ∀ m, (full m).Pairwise (fun a b => a.1 < b.1)
  | 0 => List.Pairwise.nil
  | m + 1 => by
    rw [full]
    refine List.pairwise_append.2 ⟨full_pair m, by simp, fun a ha b hb => ?_⟩
    rw [List.mem_singleton] at hb
    subst hb
    exact (full_lt m a ha).2
theorem full_may {m : Nat} (h : m ≤ 64) : Hd.may ⟨0, full m⟩ := by
  refine ⟨Int.le_refl 0, (by decide : (0 : Int) ≤ 1099511627776), (rise_pair _).2 ⟨fun s hs => ?_, full_pair m⟩, by simp only [full_len]; exact h, fun s hs => ?_⟩
  · have := full_lt m s hs
    unfold Ag.begin_
    omega
  · have := full_lt m s hs
    simp only
    omega
theorem full_put {m : Nat} (h : m < 64) : putH ⟨0, full m⟩ (3 * (m : Int), 0) = (⟨0, full (m + 1)⟩, 0) := by
  have hno : ¬ has (3 * (m : Int)) (full m) := by
    rintro ⟨s, hs, e⟩
    have := full_lt m s hs
    omega
  have hin : inT (3 * (m : Int), (0 : Int)).1 := by unfold inT; simp only; omega
  rcases put_cases (s := (3 * (m : Int), 0)) (full_may (by omega : m ≤ 64)) hin with ⟨h1, e⟩ | ⟨_, h1, e⟩ | ⟨_, _, h1, e⟩ | ⟨_, _, _, e⟩
  · simp only at h1; omega
  · exact absurd h1 hno
  · simp only [full_len] at h1; omega
  · rw [e]
    simp only
    rw [ins_last (fun x hx => (full_lt m x hx).2)]
    rfl
theorem full_over {i : Nat} (h : 64 ≤ i) (h2 : i < 1000) : putH ⟨0, full 64⟩ (3 * (i : Int), 0) = (⟨0, full 64⟩, 8) := by
  have hno : ¬ has (3 * (i : Int)) (full 64) := by
    rintro ⟨s, hs, e⟩
    have := full_lt 64 s hs
    omega
  have hin : inT (3 * (i : Int), (0 : Int)).1 := by unfold inT; simp only; omega
  rcases put_cases (s := (3 * (i : Int), 0)) (full_may (Nat.le_refl 64)) hin with ⟨h1, e⟩ | ⟨_, h1, e⟩ | ⟨_, _, h1, e⟩ | ⟨_, _, h1, e⟩
  · simp only at h1; omega
  · exact absurd h1 hno
  · exact e
  · simp only [full_len] at h1; omega

theorem full_head : ∀ m, ((full m).getD 0 (0, 0)).1 = 0
  | 0 => rfl
  | 1 => rfl
  | m + 2 => by
    have ih := full_head (m + 1)
    rw [full]
    rw [List.getD_eq_getElem?_getD, List.getElem?_append_left (by rw [full_len]; omega), ← List.getD_eq_getElem?_getD]
    exact ih
/-- The head, amid. -/
structure FInv (w wr : World) (i n : Nat) (A : Option Addr) (cap : Nat) : Prop where
  eq : n = min i 64
  v : HVar wr w.heap.size (.int .i64 0) (.slice A n cap)
  row : Row wr A cap (full n)
  below : Below w.heap.size w wr
/-- What a round leaves: Put's answer in a variable of its own, then in the head. -/
theorem FInv.step {w wr w2 : World} {i n n' : Nat} {A A' : Option Addr} {cap cap' : Nat} (h : FInv w wr i n A cap) (ho : Out wr w2 wr.heap.size A' cap' (full n')) (hn : n' = min (i + 1) 64) (o : Obj) :
    FInv w (((w2.alloc o).setCell ⟨w.heap.size, 0, none⟩ (.int .i64 0)).setCell ⟨w.heap.size, 1, none⟩ (.slice A' n' cap')) (i + 1) n' A' cap' := by
  have hl := h.v.lt
  have ho2 : Out wr (w2.alloc o) wr.heap.size A' cap' (full n') := ho.on (below_box _ _)
  have hv := (h.v.below ho.below).below (below_box w2 o)
  have hv2 := hv.lt
  have ho3 : Out w (w2.alloc o) wr.heap.size A' cap' (full n') := ho2.start h.below
  have ho4 := (ho3.set_ ⟨w.heap.size, 0, none⟩ (.int .i64 0) (Nat.le_refl _) hl).set_ ⟨w.heap.size, 1, none⟩ (.slice A' n' cap') (Nat.le_refl _) hl
  refine ⟨hn, ?_, ho4.row, ho4.below⟩
  obtain ⟨c0, c1, f0, f1⟩ := hv
  constructor
  · go_simp
  · go_simp
  · go_simp
  · go_simp

theorem put_full {i n : Nat} {A : Option Addr} {cap : Nat} {w wr : World} (h : FInv w wr i n A cap) (hi : i < 1000) :
    Calls Try.prog 8 #[.agg #[.int .i64 0, .slice A n cap], .agg #[.int .i64 (3 * (i : Int)), .int .i64 0]] wr fun e w2 => ∃ A' cap' n', e = .returned (.tuple #[.agg #[.int .i64 0, .slice A' n' cap'], .int .i64 (if i < 64 then 0 else 8)]) ∧ n' = min (i + 1) 64 ∧ Out wr w2 wr.heap.size A' cap' (full n') := by
  have hn := h.eq
  have hput : putH ⟨0, full n⟩ (3 * (i : Int), 0) = (⟨0, full (min (i + 1) 64)⟩, if i < 64 then 0 else 8) := by
    by_cases h1 : i < 64
    · rw [if_pos h1]
      obtain rfl : n = i := by omega
      rw [full_put h1, Nat.min_eq_left (by omega)]
    · rw [if_neg h1]
      obtain rfl : n = 64 := by omega
      rw [full_over (by omega) hi, Nat.min_eq_right (by omega)]
  refine (put_any h.row (full_len n) (full_may (by omega)) (show inT (3 * (i : Int)) by unfold inT; omega) (show In64 0 by decide)).mono ?_
  rintro e w2 ⟨A', cap', n', rfl, hl, ho⟩
  rw [hput] at hl ho ⊢
  simp only [full_len] at hl ho ⊢
  subst hl
  exact ⟨A', cap', _, rfl, rfl, ho⟩

set_option maxRecDepth 100000 in
set_option maxHeartbeats 1000000 in
theorem walk (a0 : Int) (w0 : (Lit.int .i64 a0).wf = true) (w : World) :
    Calls Try.prog 5 #[.int .i64 a0] w fun e w' => e = .returned (.bool true) ∧ Below w.heap.size w w' := by
  obtain ⟨x, hx, hx0, hx1⟩ := wrap_u64_rem (a := a0) 8 (by decide)
  obtain ⟨U, hU⟩ : ∃ U, IntKind.u64.wrap a0 = U := ⟨_, rfl⟩
  rw [hU] at hx
  obtain ⟨K, hK⟩ : ∃ K : Nat, 60 + x = (K : Int) := ⟨(60 + x).toNat, by omega⟩
  have hK1 : 60 ≤ K := by omega
  have hK2 : K ≤ 67 := by omega
  have k1 : IntKind.i64.wrap x = x := by rw [IntKind.wrap_i64]; omega
  have k2 : IntKind.i64.wrap (60 + x) = (K : Int) := by rw [IntKind.wrap_i64]; omega
  have MP := Lib.hid (fun (w wr : World) (i n : Nat) (A : Option Addr) (cap : Nat) (h : FInv w wr i n A cap) (hi : i < 1000) => put_full h hi)
  clear w0 hK
  go_enter Try.func5, Try.ntmps5
  go_wp2
  go_loopw [5] (fun si wr => ∃ (i : Nat), i ≤ K ∧ si = .int .i64 (i : Int) ∧ Hid (∃ n A cap, FInv w wr i n A cap)) (fun si _ => K - (intOf si).toNat)
  case atStart => exact ⟨0, by omega, rfl, Lib.hid ⟨0, none, 0, rfl, HVar.new _ _ _ _, Row.none _, below_box _ _⟩⟩
  case round =>
    obtain ⟨i, hi, rfl, HE⟩ := hrel
    obtain ⟨n, A, cap, hI⟩ := HE.out
    have HI := Lib.hid hI
    obtain ⟨c0, c1, f0, f1⟩ := hI.v
    have HIl := Lib.hid hI.v.lt
    clear hI HE
    by_cases hlt : i < K
    · have i1 : (i : Int) < (K : Int) := by omega
      have i2 : IntKind.i64.wrap (3 * (i : Int)) = 3 * (i : Int) := by rw [IntKind.wrap_i64]; omega
      go_wp2_with fail
      refine (MP.out _ _ _ _ _ _ HI.out (by omega)).mono ?_
      rintro e w2 ⟨A', cap', n', rfl, hn', ho⟩
      have HS := Lib.hid (HI.out.step ho hn')
      have hv := ((HI.out.v.below ho.below).below (below_box w2 (.cells #[.int .i64 0, .slice A' n' cap'] 25)))
      have HV := Lib.hid hv
      have HZ2 := Lib.hid ho.below.size
      clear hn' ho c0 c1 f0 f1 hv
      go_upto_region 7 with fail
      obtain ⟨c0, c1, f0, f1⟩ := HV.out
      have hne : w2.heap.size ≠ w.heap.size := by have := HIl.out; have := HZ2.out; omega
      by_cases h64 : i < 64
      · have h64' : (i : Int) < 64 := by omega
        rw [if_pos h64]
        clear h64
        go_wp2
        go_roundw
        case rel => exact ⟨i + 1, by omega, by go_num, Lib.hid ⟨n', A', cap', HS.out _⟩⟩
        case measure => simp [intOf]; omega
      · have h64' : ¬ (i : Int) < 64 := by omega
        rw [if_neg h64]
        clear h64
        go_wp2
        go_roundw
        case rel => exact ⟨i + 1, by omega, by go_num, Lib.hid ⟨n', A', cap', HS.out _⟩⟩
        case measure => simp [intOf]; omega
    · obtain rfl : i = K := by omega
      have HNK := Lib.hid HI.out.eq
      have hn0 : 0 < n := by have := HNK.out; omega
      have hmn : ∀ ts t W, (Builtin.min_ ts t #[.int .i64 (i : Int), .int .i64 64]).run Try.prog W = .ok (.int .i64 (n : Int)) W := fun ts t W => by
        rw [show (n : Int) = min (i : Int) 64 by have := HNK.out; omega]
        exact Lib.run_min_ints W ts t .i64 .i64 _ _
      have MD := Lib.hid (fun (w' : World) (h : Row w' A cap (full n)) => due_some (S := 0) (now := 0) (t0 := 0) (n := n) (p := ⟨60, 600, 6000, 0, 64, 30⟩) h (full_len n) hn0 (full_head n) (full_may (by have := HNK.out; omega)) (pol_may (by decide) (by decide) (by decide) (by decide)))
      have MM := Lib.hid (fun (w' : World) (h : Row w' A cap (full n)) => mayH_any (S := 0) (n := n) (by decide) h (full_len n))
      have HM := Lib.hid (decide_eq_true (full_may (m := n) (by have := HNK.out; omega)))
      unfold Pol.val at MD
      simp only at MD
      have HDD : Hid ((decide ((64 : Int) ≤ (n : Int)) || decide ((0 : Int) + 30 ≤ 0)) = decide ((64 : Int) ≤ (i : Int))) := Lib.hid (by
        rw [show decide ((0 : Int) + 30 ≤ 0) = false by decide, Bool.or_false]
        have := HNK.out
        exact decide_eq_decide.2 (by omega))
      clear hlt
      go_wp2_with fail
      refine (default_any _).mono ?_
      rintro e w2 ⟨rfl, hb⟩
      unfold Pol.val Pol.dflt
      simp only
      have HI2 : Hid (∀ o, FInv w (w2.alloc o) i n A cap) := Lib.hid (fun o => by
        have hb2 := past_alloc hb o
        exact ⟨HI.out.eq, HI.out.v.below hb2, HI.out.row.below hb2, past HI.out.below hb2⟩)
      clear hb c0 c1 f0 f1
      go_upto_region 12 with fail
      have HP3 : Hid (PVar (w2.alloc (.cells #[.int .i64 60, .int .i64 600, .int .i64 6000, .int .i64 0, .int .i64 64, .int .i64 30] 40)) w2.heap.size 60 600 6000 0 64 30) := Lib.hid (PVar.new _ _ _ _ _ _ _ _)
      have HI3 := Lib.hid (HI2.out (.cells #[.int .i64 60, .int .i64 600, .int .i64 6000, .int .i64 0, .int .i64 64, .int .i64 30] 40))
      generalize w2.alloc (.cells #[.int .i64 60, .int .i64 600, .int .i64 6000, .int .i64 0, .int .i64 64, .int .i64 30] 40) = w3 at *
      generalize w2.heap.size = gp at *
      clear HI2 HI HIl
      go_wp2_with fail
      refine (told_any _).mono ?_
      rintro e w4 ⟨rfl, hb⟩
      have HP4 := Lib.hid (HP3.out.below hb)
      have HI4 : Hid (FInv w w4 i n A cap) := Lib.hid ⟨HI3.out.eq, HI3.out.v.below hb, HI3.out.row.below hb, past HI3.out.below hb⟩
      clear hb HP3 HI3
      obtain ⟨p0, p1, p2, p3, p4, p5⟩ := HP4.out
      have c0 := HI4.out.v.c0
      have c1 := HI4.out.v.c1
      go_wp2_with fail
      refine (MD.out _ HI4.out.row).mono ?_
      rintro e w5 ⟨rfl, hb⟩
      have HI5 : Hid (FInv w w5 i n A cap) := Lib.hid ⟨HI4.out.eq, HI4.out.v.below hb, HI4.out.row.below hb, past HI4.out.below hb⟩
      clear hb HP4 HI4 p0 p1 p2 p3 p4 p5 c0 c1
      rw [HDD.out]
      have c0 := HI5.out.v.c0
      have c1 := HI5.out.v.c1
      generalize hD : decide ((64 : Int) ≤ (i : Int)) = D
      go_wp2_with fail
      refine (MM.out _ HI5.out.row).mono ?_
      rintro e w6 ⟨rfl, hb⟩
      have HB6 := Lib.hid (past HI5.out.below hb)
      rw [HM.out]
      clear hb c0 c1
      go_wp2
      (try rw [Exit.noGoto_ret])
      go_ret
      exact ⟨rfl, HB6.out⟩
end Go.Proofs.Ytinplchaimejbaa.headFull
