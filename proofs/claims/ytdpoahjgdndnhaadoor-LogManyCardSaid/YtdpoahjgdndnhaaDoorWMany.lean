/-
  The walk of LogMany: it returns true, and writes nothing that was there.
-/
import Derived.Test.YtdpoahjgdndnhaaDoorLWalk
import Derived.Test.YtdpoahjgdndnhaaDoorLTold
set_option maxRecDepth 100000
namespace Go.Proofs.YtdpoahjgdndnhaaDoor
open Go.RowKit
attribute [local go_sem ↓] Go.wp_at_zero Go.wp_at_succ
set_option linter.unusedVariables false

theorem own_apart {w : World} {b1 b2 s1 s2 n1 n2 : Nat} {e1 e2 : TypeId} {v1 v2 : Value} {x1 x2 : List Value} (h1 : w.ownsRow b1 e1 s1 v1 n1 x1) (h2 : w.ownsRow b2 e2 s2 v2 n2 x2) (he : e1 ≠ e2) : v1.ownBlock = none ∨ v1.ownBlock ≠ v2.ownBlock := by
  rcases h1.2 with ⟨rfl, _⟩ | ⟨g, cap, cur, rfl, _, hg, _⟩
  · exact .inl rfl
  · right
    intro e
    rcases h2.2 with ⟨rfl, _⟩ | ⟨g2, cap2, cur2, rfl, _, hg2, _⟩
    · cases e
    · injection e with e
      change g = g2 at e
      subst e
      rw [hg] at hg2
      injection hg2 with hg2
      injection hg2 with _ hg2 _
      exact he hg2
def repA (i : Nat) : List Ent := List.replicate i aL
theorem repA_succ (i : Nat) : repA (i + 1) = repA i ++ [aL] := List.replicate_succ' ..
theorem repA_len (i : Nat) : (repA i).length = i := List.length_replicate ..
theorem repA_may (i : Nat) : ∀ e ∈ repA i, e.may ∧ e.ok := fun e he => by
  rw [List.eq_of_mem_replicate he]
  exact ⟨may_aL, ok_aL⟩
theorem allB_rep : ∀ i, (allB (repA i)).length = i * 7
  | 0 => rfl
  | i + 1 => by
    rw [repA_succ, allB_append, List.length_append, allB_rep i, allB_one, len_fa]
    omega
theorem repA_take (k n : Nat) (h : n ≤ k) : (repA k).take n = repA n := by
  unfold repA
  rw [List.take_replicate, Nat.min_eq_left h]
/-- Amid the making of many. -/
structure MI (w wr : World) (gE : Nat) (v5 v6 : Value) (i : Nat) : Prop where
  e : wr.ownsRow w.heap.size 25 8 v5 i (entV (repA i))
  b : wr.ownsRow w.heap.size 5 1 v6 (i * 7) (bytesV (allB (repA i)))
  nb : NB w wr
theorem NB.on {w wr wx : World} (h : NB w wr) (hw : ∀ u, Below wr.heap.size wr u → Nam u) (hb : Below wr.heap.size wr wx) : NB w wx := ⟨hw _ hb, Nat.lt_of_lt_of_le h.pos hb.size, past h.below hb⟩
set_option maxHeartbeats 8000000 in
theorem walk_many (HT : Hid ToldL) (c : Int) {w : World} (hw : Nam w) (h0 : 0 < w.heap.size) :
    Calls Tryd.prog 6 #[.int .i64 c] w fun e w' => e = .returned (.bool true) ∧ Below w.heap.size w w' := by
  have HX : Hid (Later w fun u => NB w u) := Lib.hid (fun u hu => ⟨hw.below h0 hu, Nat.lt_of_lt_of_le h0 hu.size, hu⟩)
  clear hw h0
  obtain ⟨U, hU⟩ : ∃ U, IntKind.u64.wrap c = U := ⟨_, rfl⟩
  have hU0 : 0 ≤ U := by rw [← hU, IntKind.wrap_u64]; omega
  obtain ⟨y, hy, hy0, hy1⟩ : ∃ y : Int, U.tmod 7 = y ∧ 0 ≤ y ∧ y < 7 := ⟨_, rfl, Int.tmod_nonneg _ hU0, Int.tmod_lt_of_pos _ (by omega)⟩
  obtain ⟨r, rfl⟩ : ∃ r : Nat, y = (r : Int) := ⟨y.toNat, by omega⟩
  have hy' : U % 7 = (r : Int) := by rw [← hy, Int.tmod_eq_emod_of_nonneg hU0]
  obtain ⟨K, hK⟩ : ∃ K : Nat, K = 1997 + r := ⟨_, rfl⟩
  have j1 : IntKind.i64.wrap (r : Int) = (r : Int) := by rw [IntKind.wrap_i64]; omega
  have j2 : IntKind.i64.wrap (1997 + (r : Int)) = (K : Int) := by rw [IntKind.wrap_i64]; omega
  have hK1 : 1997 ≤ K := by omega
  have hK2 : K ≤ 2003 := by omega
  clear hU0 hy0 hy1 hK
  go_enter Tryd.func6, Tryd.ntmps6
  go_upto_region 3 with fail
  clear hU hy hy' j1 j2
  have hb := below_box w (.cells #[.int .i64 3, .int .i64 1, .int .i64 0, .int .i64 0, .int .i64 0, .int .i64 0, .int .u32 0, .string ⟨#[]⟩] 25)
  have HX1 := Lib.hid (HX.out.on hb)
  have HE1 : Hid (Later (w.alloc (.cells #[.int .i64 3, .int .i64 1, .int .i64 0, .int .i64 0, .int .i64 0, .int .i64 0, .int .u32 0, .string ⟨#[]⟩] 25)) fun u => EV u w.heap.size aL) := Lib.hid (fun u hu => (EV.new w aL).below hu)
  generalize hgE : w.heap.size = gE at HE1 ⊢
  generalize w.alloc (.cells #[.int .i64 3, .int .i64 1, .int .i64 0, .int .i64 0, .int .i64 0, .int .i64 0, .int .u32 0, .string ⟨#[]⟩] 25) = w1 at *
  have HGE := Lib.hid hgE
  clear hb HX hgE
  obtain ⟨a0, a1, a2, a3, a4, a5, a6, a7, _⟩ := HE1.out.now
  unfold aL at a0 a1 a2 a3 a4 a5 a6 a7
  simp only at a0 a1 a2 a3 a4 a5 a6 a7
  have M := frame_ent aL w1 ok_aL HX1.out.now.nam HX1.out.now.pos
  rw [frame_ok may_aL] at M
  unfold PutEPost at M
  simp only [len_fa] at M
  have HM : Hid (Calls Tryd.prog 26 #[.agg #[.int .i64 3, .int .i64 1, .int .i64 0, .int .i64 0, .int .i64 0, .int .i64 0, .int .u32 0, .string ⟨#[]⟩]] w1 fun en w' => ∃ (A : Option Addr) (cap : Nat), en = .returned (.tuple #[.slice A 7 cap, .int .i64 0]) ∧ BRow w' A 7 cap (frm aL.bytes) ∧ Below w1.heap.size w1 w' ∧ ∀ ad, A = some ad → w1.heap.size ≤ ad.block) := Lib.hid M
  clear M
  go_wp2_with fail
  refine HM.out.mono ?_
  rintro en w2 ⟨V2, c2, rfl, hr, hb, _⟩
  have HX2 := Lib.hid (HX1.out.on hb)
  have HE2 := Lib.hid (HE1.out.on hb)
  have HF2 : Hid (Later w2 fun u => BRow u V2 7 c2 (frm aL.bytes)) := Lib.hid (fun u hu => hr.below hu)
  have HFB := Lib.hid hr.bytes.1
  clear hr hb HM HX1 HE1 a0 a1 a2 a3 a4 a5 a6 a7
  go_wp2
  go_loopw [5, 6, 9] (fun s5 s6 s9 wr => ∃ (i : Nat), s9 = .int .i64 (i : Int) ∧ i ≤ K ∧ (∃ A5 d5, s5 = .slice A5 i d5) ∧ (∃ A6 d6, s6 = .slice A6 (i * 7) d6) ∧ Hid (wr.ownsRow w2.heap.size 25 8 s5 i (entV (repA i)) ∧ wr.ownsRow w2.heap.size 5 1 s6 (i * 7) (bytesV (allB (repA i))) ∧ Below w2.heap.size w2 wr)) (fun _ _ si _ => K - (intOf si).toNat)
  case atStart => exact ⟨0, rfl, Nat.zero_le _, ⟨none, 0, rfl⟩, ⟨none, 0, rfl⟩, Lib.hid ⟨World.ownsRow_nil _ _ _ _, World.ownsRow_nil _ _ _ _, Below.refl _ _⟩⟩
  case round =>
    obtain ⟨i, rfl, hi, ⟨A5, d5, rfl⟩, ⟨A6, d6, rfl⟩, HI⟩ := hrel
    by_cases hlt : i < K
    case pos =>
      have i1 : (i : Int) < (K : Int) := by omega
      obtain ⟨a0, a1, a2, a3, a4, a5, a6, a7, _⟩ := HE2.out _ HI.out.2.2
      unfold aL at a0 a1 a2 a3 a4 a5 a6 a7
      simp only at a0 a1 a2 a3 a4 a5 a6 a7
      have HOW : Hid ((wr.alloc (.cells #[.int .i64 3, .int .i64 1, .int .i64 0, .int .i64 0, .int .i64 0, .int .i64 0, .int .u32 0, .string ⟨#[]⟩] 25)).ownsRow w2.heap.size 25 8 (.slice A5 i d5) i (entV (repA i))) := Lib.hid (HI.out.1.alloc _)
      have HBW : Hid ((wr.alloc (.cells #[.int .i64 3, .int .i64 1, .int .i64 0, .int .i64 0, .int .i64 0, .int .i64 0, .int .u32 0, .string ⟨#[]⟩] 25)).ownsRow w2.heap.size 5 1 (.slice A6 (i * 7) d6) (i * 7) (bytesV (allB (repA i)))) := Lib.hid (HI.out.2.1.alloc _)
      have HBL := Lib.hid (past_alloc HI.out.2.2 (.cells #[.int .i64 3, .int .i64 1, .int .i64 0, .int .i64 0, .int .i64 0, .int .i64 0, .int .u32 0, .string ⟨#[]⟩] 25))
      have HS1 : Hid (i + 1 ≤ 100000) := Lib.hid (by omega)
      have HS2 : Hid (i * 7 + 7 ≤ 100000) := Lib.hid (by omega)
      go_wp2_with (at_builtin; refine wpList_append_ents rfl _ _ rfl w2.heap.size _ i 1 (repA i) [aL] rfl HOW.out _ _ rfl (row_aL wr) HS1.out HBL.out.size ?_)
      intro v5 w5 hown hgrow
      have HB5 : Hid (w5.ownsRow w2.heap.size 5 1 (.slice A6 (i * 7) d6) (i * 7) (bytesV (allB (repA i)))) := Lib.hid (HBW.out.kept hgrow (own_apart HBW.out HOW.out (by decide)))
      have hbl : Below w2.heap.size w2 w5 := HBL.out.grown hgrow HBL.out.size (fun k h => (HOW.out.lt k h).1)
      have HO5 : Hid (w5.ownsRow w2.heap.size 25 8 v5 (i + 1) (entV (repA (i + 1)))) := Lib.hid (by rw [repA_succ]; exact hown)
      have HL5 := Lib.hid hbl
      have HF5 := Lib.hid (HF2.out _ hbl)
      obtain ⟨g5, d5_, hv5⟩ := own_some hown (by omega)
      subst hv5
      clear hown hgrow hbl HOW HBW HBL HI a0 a1 a2 a3 a4 a5 a6 a7
      go_wp2_with (at_builtin; refine wpList_append_brow rfl _ _ rfl w2.heap.size _ (i * 7) 7 (allB (repA i)) (frm aL.bytes) rfl HB5.out V2 c2 rfl HF5.out HS2.out HL5.out.size ?_)
      intro v6 w6 hown hgrow
      have HI6 : Hid (w6.ownsRow w2.heap.size 25 8 (.slice (some ⟨g5, 0, none⟩) (i + 1) d5_) (i + 1) (entV (repA (i + 1))) ∧ w6.ownsRow w2.heap.size 5 1 v6 ((i + 1) * 7) (bytesV (allB (repA (i + 1)))) ∧ Below w2.heap.size w2 w6) := Lib.hid
        ⟨HO5.out.kept hgrow (own_apart HO5.out HB5.out (by decide)), by rw [repA_succ, allB_append, allB_one, show (i + 1) * 7 = i * 7 + 7 by omega]; exact hown, HL5.out.grown hgrow HL5.out.size (fun k h => (HB5.out.lt k h).1)⟩
      obtain ⟨g6, d6_, hv6⟩ := own_some HI6.out.2.1 (by omega)
      subst hv6
      clear hown hgrow HB5 HO5 HL5 HF5 HS1 HS2
      go_wp2
      go_roundw
      case rel => exact ⟨i + 1, by go_num, by omega, ⟨_, _, rfl⟩, ⟨_, _, rfl⟩, HI6⟩
      case measure => simp [intOf]; omega
    obtain rfl : i = K := by omega
    have i1 : ¬ (i : Int) < (i : Int) := by omega
    have HX3 := Lib.hid (HX2.out.on HI.out.2.2)
    obtain ⟨A5', d5', he5, hr5, _⟩ := entRow_own HI.out.1 (fun e he => (repA_may i e he).2)
    injection he5 with e1 _ e3
    subst e1 e3
    have HR5 : Hid (Later wr fun u => EntRow u A5 i d5 (repA i)) := Lib.hid (fun u hu => hr5.below hu)
    obtain ⟨A6', d6', he6, hr6, _⟩ := brow_of_own HI.out.2.1 (allB_byte (fun e he => entB_byte (repA_may i e he).1))
    injection he6 with e1 _ e3
    subst e1 e3
    have HR6 : Hid (Later wr fun u => BRow u A6 (i * 7) d6 (allB (repA i))) := Lib.hid (fun u hu => hr6.below hu)
    clear hr5 hr6 HI HE2 HF2
    have M := all_log HR5.out.now (by rw [allB_rep]; omega) HX3.out.now.nam HX3.out.now.pos
    have HALL := Lib.hid M
    clear M
    have M := read_log HR6.out.now (by omega) HX3.out.now.nam HX3.out.now.pos
    clear M
    by_cases h2 : i ≤ 2000
    · have hall : allE (repA i) = (allB (repA i), 0) := allE_ok (repA_may i) (by rw [repA_len]; exact h2)
      rw [hall] at HALL
      unfold PutEPost at HALL
      simp only [allB_rep] at HALL
      clear hall
      go_wp2_with fail
      refine HALL.out.mono ?_
      rintro en w3 ⟨V3, c3, rfl, hr, hb, _⟩
      have HX4 := Lib.hid (HX3.out.on hb)
      have HR7 := Lib.hid (HR6.out.on hb)
      have HV3 : Hid (Later w3 fun u => BRow u V3 (i * 7) c3 (allB (repA i))) := Lib.hid (fun u hu => hr.below hu)
      clear hr hb HALL HX3 HR5 HR6
      have M := read_log HR7.out.now (by omega) HX4.out.now.nam HX4.out.now.pos
      unfold readL at M
      rw [readN_some (repA_may i) (by rw [repA_len]; exact h2)] at M
      unfold ReadLPost at M
      simp only [allB_rep, repA_len] at M
      obtain ⟨p, hp⟩ : ∃ p, p = i * 7 := ⟨_, rfl⟩
      rw [← hp] at M
      have HM := Lib.hid M
      have k1 : IntKind.i64.wrap ((i : Int) * 7) = (p : Int) := by rw [IntKind.wrap_i64]; omega
      have k2 : ((i : Int) != (i : Int)) = false := by simp
      have k3 : ((p : Int) != (p : Int)) = false := by simp
      have k4 : (i : Int) ≤ 2000 := by omega
      have k5 : min (i : Int) 2000 = (i : Int) := by omega
      rw [← hp] at HR7 HV3 ⊢
      clear M hp
      go_wp2_with fail
      refine HM.out.mono ?_
      rintro en w4 ⟨M4, c4, rfl, hr, hb⟩
      have HX5 := Lib.hid (HX4.out.on hb)
      have HR8 := Lib.hid (HR7.out.on hb)
      have HV4 := Lib.hid (HV3.out.on hb)
      clear hr hb HM HX4 HR7 HV3
      go_wp2_with fail
      refine (HT.out _ HX5.out.now.nam HX5.out.now.pos).mono ?_
      rintro en w5 ⟨rfl, hb⟩
      have HB := Lib.hid (past HX5.out.now.below hb)
      have q1 := conv_bytes (HV4.out _ hb).bytes p c3 (HV4.out _ hb).len
      have q2 := conv_bytes (HR8.out _ hb).bytes p d6 (HR8.out _ hb).len
      generalize strB (allB (repA i)) = S at *
      have d4 : decide ((i : Int) ≤ 2000) = true := decide_eq_true k4
      clear hb HX5 HR8 HV4 k1 k2 k3 k5
      go_wp2
      go_ret
      exact ⟨rfl, HB.out⟩
    · have hall : allE (repA i) = ([], 8) := by
        unfold allE
        rw [if_pos (show allMay (repA i) from fun e he => (repA_may i e he).1), if_pos (by rw [repA_len]; omega)]
      rw [hall] at HALL
      unfold PutEPost at HALL
      simp only [List.length_nil] at HALL
      clear hall
      go_wp2_with fail
      refine HALL.out.mono ?_
      rintro en w3 ⟨V3, c3, rfl, hr, hb, _⟩
      have HX4 := Lib.hid (HX3.out.on hb)
      have HR7 := Lib.hid (HR6.out.on hb)
      clear hr hb HALL HX3 HR5 HR6
      have M := read_log HR7.out.now (by omega) HX4.out.now.nam HX4.out.now.pos
      unfold readL at M
      rw [readN_many (repA_may i) (by rw [repA_len]; omega), repA_take i 2000 (by omega)] at M
      unfold ReadLPost at M
      simp only [allB_rep, repA_len] at M
      have HM : Hid (Calls Tryd.prog 28 #[.slice A6 (i * 7) d6] w3 fun e w' => ∃ A' cap', e = .returned (.tuple #[.slice A' 2000 cap', .int .i64 14000]) ∧ EntRow w' A' 2000 cap' (repA 2000) ∧ Below w3.heap.size w3 w') := Lib.hid M
      have k4 : ¬ (i : Int) ≤ 2000 := by omega
      have k5 : min (i : Int) 2000 = 2000 := by omega
      have d4 : decide ((i : Int) ≤ 2000) = false := decide_eq_false k4
      have k6 : IntKind.i64.wrap ((2000 : Int) * 7) = 14000 := by rw [IntKind.wrap_i64]; rfl
      clear M
      go_wp2_with fail
      refine HM.out.mono ?_
      rintro en w4 ⟨M4, c4, rfl, hr, hb⟩
      have HX5 := Lib.hid (HX4.out.on hb)
      clear hr hb HM HX4 HR7
      go_wp2_with fail
      refine (HT.out _ HX5.out.now.nam HX5.out.now.pos).mono ?_
      rintro en w5 ⟨rfl, hb⟩
      have HB := Lib.hid (past HX5.out.now.below hb)
      clear hb HX5 k5 k6
      go_wp2
      go_ret
      exact ⟨rfl, HB.out⟩
end Go.Proofs.YtdpoahjgdndnhaaDoor
