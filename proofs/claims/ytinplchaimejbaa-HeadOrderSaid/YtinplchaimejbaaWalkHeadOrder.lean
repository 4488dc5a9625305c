/-
  The walk of HeadOrder: it returns true, and writes nothing that was there.
-/
import Derived.Test.YtinplchaimejbaaHArgs
namespace Go.Proofs.Ytinplchaimejbaa.headOrder
open Go.RowKit
attribute [local go_sem ↓] Go.wp_at_zero Go.wp_at_succ
set_option linter.unusedVariables false

def seven (t : Int) : Int := 7 * t
/-- A time, off a number. -/
def tt (l : List Int) (j : Nat) : Int := (IntKind.u64.wrap (l.getD j 0)).tmod 200
def up (l : List Int) : Nat → List (Int × Int)
  | 0 => []
  | i + 1 => up l i ++ [(tt l i, seven (tt l i))]
def down (l : List Int) (n : Nat) : Nat → List (Int × Int)
  | 0 => []
  | i + 1 => down l n i ++ [(tt l (n - 1 - i), seven (tt l (n - 1 - i)))]
theorem up_len (l : List Int) : ∀ i, (up l i).length = i
  | 0 => rfl
  | i + 1 => by rw [up, List.length_append, up_len l i]; rfl
theorem down_len (l : List Int) (n : Nat) : ∀ i, (down l n i).length = i
  | 0 => rfl
  | i + 1 => by rw [down, List.length_append, down_len l n i]; rfl
theorem mem_up (l : List Int) : ∀ i x, x ∈ up l i ↔ ∃ j, j < i ∧ x = (tt l j, seven (tt l j))
  | 0, x => by simp [up]
  | i + 1, x => by
    rw [up, List.mem_append, List.mem_singleton, mem_up l i x]
    constructor
    · rintro (⟨j, hj, e⟩ | e)
      · exact ⟨j, by omega, e⟩
      · exact ⟨i, by omega, e⟩
    · rintro ⟨j, hj, e⟩
      rcases Nat.lt_or_ge j i with h | h
      · exact .inl ⟨j, h, e⟩
      · obtain rfl : j = i := by omega
        exact .inr e
theorem mem_down (l : List Int) (n : Nat) : ∀ i x, x ∈ down l n i ↔ ∃ j, j < i ∧ x = (tt l (n - 1 - j), seven (tt l (n - 1 - j)))
  | 0, x => by simp [down]
  | i + 1, x => by
    rw [down, List.mem_append, List.mem_singleton, mem_down l n i x]
    constructor
    · rintro (⟨j, hj, e⟩ | e)
      · exact ⟨j, by omega, e⟩
      · exact ⟨i, by omega, e⟩
    · rintro ⟨j, hj, e⟩
      rcases Nat.lt_or_ge j i with h | h
      · exact .inl ⟨j, h, e⟩
      · obtain rfl : j = i := by omega
        exact .inr e
theorem mem_turned (l : List Int) (n : Nat) (x : Int × Int) : x ∈ up l n ↔ x ∈ down l n n := by
  rw [mem_up, mem_down]
  constructor
  · rintro ⟨j, hj, e⟩
    exact ⟨n - 1 - j, by omega, by rw [show n - 1 - (n - 1 - j) = j by omega]; exact e⟩
  · rintro ⟨j, hj, e⟩
    exact ⟨n - 1 - j, by omega, e⟩

/-- The two heads, amid. -/
structure OInv (w wr : World) (Sa Sb : List (Int × Int)) (ha hb : Hd) (A : Option Addr) (n cap : Nat) (A2 : Option Addr) (n2 cap2 : Nat) : Prop where
  ma : Made seven Sa ha
  mb : Made seven Sb hb
  a : HIs wr (w.heap.size + 1 + 1) w.heap.size ha A n cap
  b : HIs wr (w.heap.size + 1 + 1) (w.heap.size + 1) hb A2 n2 cap2
  below : Below w.heap.size w wr
theorem OInv.on {w wr w2 : World} {Sa Sb : List (Int × Int)} {ha hb : Hd} {A A2 : Option Addr} {n cap n2 cap2 : Nat} (H : OInv w wr Sa Sb ha hb A n cap A2 n2 cap2) (h : Below wr.heap.size wr w2) : OInv w w2 Sa Sb ha hb A n cap A2 n2 cap2 :=
  ⟨H.ma, H.mb, H.a.below h, H.b.below h, past H.below h⟩
theorem OInv.stepA {w wr w2 : World} {Sa Sb : List (Int × Int)} {ha hb : Hd} {A A2 A' : Option Addr} {n cap n2 cap2 n' cap' : Nat} {t : Int} (H : OInv w wr Sa Sb ha hb A n cap A2 n2 cap2) (ht : inT t) (hS : Sa.length < 64)
    (hn : (putH ha (t, seven t)).1.l.length = n') (ho : Out wr w2 wr.heap.size A' cap' (putH ha (t, seven t)).1.l) :
    OInv w ((w2.setCell ⟨w.heap.size, 0, none⟩ (.int .i64 ha.sl)).setCell ⟨w.heap.size, 1, none⟩ (.slice A' n' cap')) (Sa ++ [(t, seven t)]) Sb (putH ha (t, seven t)).1 hb A' n' cap' A2 n2 cap2 := by
  have hl := H.b.v.lt
  refine ⟨H.ma.put ht hS, H.mb, ?_, ?_, ?_⟩
  · have h2 := HIs.store (h := (putH ha (t, seven t)).1) (B := w.heap.size + 1 + 1) (F := wr.heap.size) (g := w.heap.size) (H.a.v.below ho.below) ho.row hn ho.fresh (by omega) (by omega)
    rw [putH_sl] at h2
    exact h2
  · exact ((H.b.below ho.below).other _ _ (by simp only; omega) (by simp only; omega)).other _ _ (by simp only; omega) (by simp only; omega)
  · exact (((past H.below ho.below).setCell (Nat.le_refl _) _).setCell (Nat.le_refl _) _)
theorem OInv.stepB {w wr w2 : World} {Sa Sb : List (Int × Int)} {ha hb : Hd} {A A2 A' : Option Addr} {n cap n2 cap2 n' cap' : Nat} {t : Int} (H : OInv w wr Sa Sb ha hb A n cap A2 n2 cap2) (ht : inT t) (hS : Sb.length < 64)
    (hn : (putH hb (t, seven t)).1.l.length = n') (ho : Out wr w2 wr.heap.size A' cap' (putH hb (t, seven t)).1.l) :
    OInv w ((w2.setCell ⟨w.heap.size + 1, 0, none⟩ (.int .i64 hb.sl)).setCell ⟨w.heap.size + 1, 1, none⟩ (.slice A' n' cap')) Sa (Sb ++ [(t, seven t)]) ha (putH hb (t, seven t)).1 A n cap A' n' cap' := by
  have hl := H.b.v.lt
  refine ⟨H.ma, H.mb.put ht hS, ?_, ?_, ?_⟩
  · exact ((H.a.below ho.below).other _ _ (by simp only; omega) (by simp only; omega)).other _ _ (by simp only; omega) (by simp only; omega)
  · have h2 := HIs.store (h := (putH hb (t, seven t)).1) (B := w.heap.size + 1 + 1) (F := wr.heap.size) (g := w.heap.size + 1) (H.b.v.below ho.below) ho.row hn ho.fresh (by omega) (by omega)
    rw [putH_sl] at h2
    exact h2
  · exact (((past H.below ho.below).setCell (by simp only; omega) _).setCell (by simp only; omega) _)

set_option maxRecDepth 100000 in
set_option maxHeartbeats 1000000 in
theorem walk (a0 : Option Addr) (len0 cap0 : Nat) (z0 : List Int) (w : World) (w0 : IsRow .i64 w a0 len0 cap0 z0) :
    Calls Try.prog 3 #[.slice a0 len0 cap0] w fun e w' => e = .returned (.bool true) ∧ Below w.heap.size w w' := by
  obtain ⟨l0, hI0⟩ := ints_of_row w0
  have S0 := Lib.hid hI0
  have hmx : len0 ≤ 9223372036854775807 := by have h1 := hI0.2.2.2.1; have h2 := hI0.2.2.2.2.1; unfold maxLen at h2; omega
  clear w0 hI0
  obtain ⟨M, hM⟩ : ∃ M, M = min len0 20 := ⟨_, rfl⟩
  have hM20 : M ≤ 20 := by omega
  have hMl : M ≤ len0 := by omega
  have hmn : ∀ ts t W, (Builtin.min_ ts t #[.int .i64 (len0 : Int), .int .i64 20]).run Try.prog W = .ok (.int .i64 (M : Int)) W := fun ts t W => by
    rw [show (M : Int) = min (len0 : Int) 20 by omega]
    exact Lib.run_min_ints W ts t .i64 .i64 _ _
  clear hM
  go_enter Try.func3, Try.ntmps3
  go_wp2
  go_loopw [6] (fun si wr => ∃ (i : Nat), i ≤ M ∧ si = .int .i64 (i : Int) ∧ Hid (∃ ha hb A n cap A2 n2 cap2, OInv w wr (up l0 i) (down l0 M i) ha hb A n cap A2 n2 cap2)) (fun si _ => M - (intOf si).toNat)
  case atStart =>
    refine ⟨0, by omega, rfl, Lib.hid ⟨Hd.none, Hd.none, none, 0, 0, none, 0, 0, Made.none _, Made.none _, ⟨(HVar.new _ _ _ _).below (below_box _ _), Row.none _, rfl, fun a e => by cases e⟩, ⟨?_, Row.none _, rfl, fun a e => by cases e⟩, past2 _ _ _⟩⟩
    have := HVar.new (w.alloc (.cells #[.int .i64 0, .slice none 0 0] 25)) (.int .i64 0) (.slice none 0 0) 25
    rwa [show (w.alloc (.cells #[.int .i64 0, .slice none 0 0] 25)).heap.size = w.heap.size + 1 by simp] at this
  case round =>
    obtain ⟨i, hi, rfl, HE⟩ := hrel
    obtain ⟨⟨sa, la⟩, ⟨sb, lb⟩, A, n, cap, A2, n2, cap2, hI⟩ := HE.out
    have HI := Lib.hid hI
    clear hI HE
    by_cases hlt : i < M
    · obtain ⟨b, off, rfl, hcell⟩ := S0.out.2.2.1 (by omega)
      have c := hcell i (by omega)
      have d := hcell (M - 1 - i) (by omega)
      rw [← HI.out.below.cell (World.block_lt_of_cell? w _ c)] at c
      rw [← HI.out.below.cell (World.block_lt_of_cell? w _ d)] at d
      clear hcell
      obtain ⟨x, hx, hx0, hx1⟩ := wrap_u64_rem (a := l0.getD i 0) 200 (by decide)
      obtain ⟨y, hy, hy0, hy1⟩ := wrap_u64_rem (a := l0.getD (M - 1 - i) 0) 200 (by decide)
      have HX : Hid (tt l0 i = x) := Lib.hid hx
      have HY : Hid (tt l0 (M - 1 - i) = y) := Lib.hid hy
      generalize l0.getD i 0 = T at c hx
      generalize l0.getD (M - 1 - i) 0 = T2 at d hy
      obtain ⟨U, hU⟩ : ∃ U, IntKind.u64.wrap T = U := ⟨_, rfl⟩
      obtain ⟨U2, hU2⟩ : ∃ U2, IntKind.u64.wrap T2 = U2 := ⟨_, rfl⟩
      rw [hU] at hx
      rw [hU2] at hy
      have k1 : IntKind.i64.wrap x = x := by rw [IntKind.wrap_i64]; omega
      have k2 : IntKind.i64.wrap y = y := by rw [IntKind.wrap_i64]; omega
      have k3 : IntKind.i64.wrap (7 * x) = 7 * x := by rw [IntKind.wrap_i64]; omega
      have k4 : IntKind.i64.wrap (7 * y) = 7 * y := by rw [IntKind.wrap_i64]; omega
      have hinx : inT x := by unfold inT; omega
      have hiny : inT y := by unfold inT; omega
      have hvx : In64 (7 * x) := by unfold In64; omega
      have hvy : In64 (7 * y) := by unfold In64; omega
      have HIX := Lib.hid hinx
      have HIY := Lib.hid hiny
      have HVX := Lib.hid hvx
      have HVY := Lib.hid hvy
      have i1 : (i : Int) < (M : Int) := by omega
      have i2 : (i : Int) < (len0 : Int) := by omega
      have i3 : (0 : Int) ≤ (i : Int) := by omega
      have j1 : IntKind.i64.wrap ((M : Int) - 1) = (M : Int) - 1 := by rw [IntKind.wrap_i64]; omega
      have j2 : IntKind.i64.wrap ((M : Int) - 1 - i) = (M : Int) - 1 - i := by rw [IntKind.wrap_i64]; omega
      have j3 : (0 : Int) ≤ (M : Int) - 1 - i := by omega
      have j4 : (M : Int) - 1 - i < (len0 : Int) := by omega
      have j5 : ((M : Int) - 1 - i).toNat = M - 1 - i := by omega
      clear hinx hiny hvx hvy
      go_upto_region 6 with fail
      go_quiet (fail)
      clear c d j1 j2 j3 j4 j5
      have HJ := Lib.hid (HI.out.on (belowN wr nq))
      clear HI
      generalize wr.drewN nq = wz at *
      obtain ⟨c0, c1, f0, f1⟩ := HJ.out.a.v
      dsimp only at c0
      go_wp2_with fail
      refine (HJ.out.a.puts HJ.out.ma.may HIX.out HVX.out).mono ?_
      rintro e w2 ⟨A', cap', n', rfl, hn, ho⟩
      have HK := Lib.hid (HJ.out.stepA HIX.out (by rw [up_len]; omega) hn ho)
      obtain ⟨y0, y1, y2, y3⟩ := HJ.out.a.v.below ho.below
      dsimp only at HK y0
      clear hn ho c0 c1 f0 f1
      go_upto_region 8 with fail
      clear y0 y1 y2 y3
      generalize (w2.setCell ⟨w.heap.size, 0, none⟩ (.int .i64 sa)).setCell ⟨w.heap.size, 1, none⟩ (.slice A' n' cap') = w3 at *
      clear HJ
      obtain ⟨c0, c1, f0, f1⟩ := HK.out.b.v
      dsimp only at c0
      go_wp2_with fail
      refine (HK.out.b.puts HK.out.mb.may HIY.out HVY.out).mono ?_
      rintro e w4 ⟨A5, cap5, n5, rfl, hn, ho⟩
      have HL := Lib.hid (HK.out.stepB HIY.out (by rw [down_len]; omega) hn ho)
      obtain ⟨y0, y1, y2, y3⟩ := HK.out.b.v.below ho.below
      dsimp only at HL y0
      have HN : Hid (∃ ha hb A n cap A2 n2 cap2, OInv w ((w4.setCell ⟨w.heap.size + 1, 0, none⟩ (.int .i64 sb)).setCell ⟨w.heap.size + 1, 1, none⟩ (.slice A5 n5 cap5)) (up l0 (i + 1)) (down l0 M (i + 1)) ha hb A n cap A2 n2 cap2) := Lib.hid (by
        rw [up, down, HX.out, HY.out]
        exact ⟨_, _, _, _, _, _, _, _, HL.out⟩)
      clear hn ho c0 c1 f0 f1 HL HK
      go_wp2
      go_roundw
      case rel => exact ⟨i + 1, by omega, by go_num, HN⟩
      case measure => simp [intOf]; omega
    · obtain rfl : i = M := by omega
      have hab := HI.out.ma.same HI.out.mb (mem_turned l0 i)
      injection hab with e1 e2
      subst e1 e2
      have HML := Lib.hid HI.out.ma.may
      have i1 : ¬ (i : Int) < (i : Int) := by omega
      go_wp2_with fail
      refine (told_any _).mono ?_
      rintro e w2 ⟨rfl, hb⟩
      have HJ := Lib.hid (HI.out.on hb)
      clear hb HI
      have c0 := HJ.out.a.v.c0
      have c1 := HJ.out.a.v.c1
      have d0 := HJ.out.b.v.c0
      have d1 := HJ.out.b.v.c1
      dsimp only at c0 d0
      have hnn : n2 = n := by rw [← HJ.out.a.len, ← HJ.out.b.len]
      subst hnn
      go_wp2_with fail
      refine (same_any HJ.out.a.row HJ.out.b.row HJ.out.a.len).mono ?_
      rintro e w3 ⟨rfl, hb⟩
      have HK := Lib.hid (HJ.out.on hb)
      clear hb HJ c0 c1 d0 d1
      have c0 := HK.out.a.v.c0
      have c1 := HK.out.a.v.c1
      dsimp only at c0
      have MM := Lib.hid (mayH_any (S := sa) (by have h1 := HML.out.1; have h2 := HML.out.2.1; dsimp only at h1 h2; unfold In64; omega) HK.out.a.row HK.out.a.len)
      dsimp only at MM
      rw [decide_eq_true HML.out] at MM
      go_wp2_with fail
      refine MM.out.mono ?_
      rintro e w4 ⟨rfl, hb⟩
      have HB4 := Lib.hid (past HK.out.below hb)
      clear hb c0 c1
      go_wp2
      (try rw [Exit.noGoto_ret])
      go_ret
      exact ⟨rfl, HB4.out⟩
end Go.Proofs.Ytinplchaimejbaa.headOrder
