/-
  The walk of HeadPlays: it returns true, and writes nothing that was there.
-/
import Derived.Test.YtinplchaimejbaaHRefB
import Derived.Test.YtinplchaimejbaaHRefP
namespace Go.Proofs.Ytinplchaimejbaa.headPlays
open Go.RowKit
attribute [local go_sem ↓] Go.wp_at_zero Go.wp_at_succ
set_option linter.unusedVariables false

/-- The two heads, which are one, what came out, how many were taken, amid. -/
structure PInv (w wr : World) (hd : Hd) (out : List (Int × Int)) (v7 : Value) (L : Nat) (A : Option Addr) (n cap : Nat) (A2 : Option Addr) (n2 cap2 : Nat) : Prop where
  a : HIs wr (w.heap.size + 1 + 1) w.heap.size hd A n cap
  b : HIs wr (w.heap.size + 1 + 1) (w.heap.size + 1) hd A2 n2 cap2
  own : wr.ownsRow (w.heap.size + 1 + 1) 30 2 v7 L (sampV out)
  inn : In2 out
  below : Below w.heap.size w wr
theorem PInv.on {w wr w2 : World} {hd : Hd} {out : List (Int × Int)} {v7 : Value} {L : Nat} {A A2 : Option Addr} {n cap n2 cap2 : Nat} (H : PInv w wr hd out v7 L A n cap A2 n2 cap2) (h : Below wr.heap.size wr w2) : PInv w w2 hd out v7 L A n cap A2 n2 cap2 :=
  ⟨H.a.below h, H.b.below h, own_below H.own h, H.inn, past H.below h⟩
theorem PInv.len {w wr : World} {hd : Hd} {out : List (Int × Int)} {v7 : Value} {L : Nat} {A A2 : Option Addr} {n cap n2 cap2 : Nat} (H : PInv w wr hd out v7 L A n cap A2 n2 cap2) : out.length = L := by
  have := H.own.1
  rw [sampV_length] at this
  omega
/-- Both variables are given a head that is there twice. -/
theorem pinv_both {w wq : World} {hd : Hd} {out : List (Int × Int)} {v7 : Value} {L : Nat} {A A2 : Option Addr} {n cap n2 cap2 : Nat} {x5 y5 x6 y6 : Value} (hv5 : HVar wq w.heap.size x5 y5) (hv6 : HVar wq (w.heap.size + 1) x6 y6)
    (r1 : Row wq A cap hd.l) (e1 : hd.l.length = n) (f1 : ∀ a, A = some a → w.heap.size + 1 + 1 ≤ a.block) (r2 : Row wq A2 cap2 hd.l) (e2 : hd.l.length = n2) (f2 : ∀ a, A2 = some a → w.heap.size + 1 + 1 ≤ a.block)
    (ho : wq.ownsRow (w.heap.size + 1 + 1) 30 2 v7 L (sampV out)) (hi : In2 out) (hb : Below w.heap.size w wq) :
    PInv w ((((wq.setCell ⟨w.heap.size, 0, none⟩ (.int .i64 hd.sl)).setCell ⟨w.heap.size, 1, none⟩ (.slice A n cap)).setCell ⟨w.heap.size + 1, 0, none⟩ (.int .i64 hd.sl)).setCell ⟨w.heap.size + 1, 1, none⟩ (.slice A2 n2 cap2)) hd out v7 L A n cap A2 n2 cap2 := by
  have k2 : Row ((wq.setCell ⟨w.heap.size, 0, none⟩ (.int .i64 hd.sl)).setCell ⟨w.heap.size, 1, none⟩ (.slice A n cap)) A2 cap2 hd.l :=
    (r2.kept (fun a e => Below.heap_setCell _ _ _ _ (by have := f2 a e; simp only; omega))).kept (fun a e => Below.heap_setCell _ _ _ _ (by have := f2 a e; simp only; omega))
  have v6 := (hv6.other ⟨w.heap.size, 0, none⟩ (.int .i64 hd.sl) (by simp only; omega)).other ⟨w.heap.size, 1, none⟩ (.slice A n cap) (by simp only; omega)
  have h5 := HIs.store (h := hd) (B := w.heap.size + 1 + 1) (F := w.heap.size + 1 + 1) (g := w.heap.size) hv5 r1 e1 f1 (Nat.le_refl _) (by omega)
  have h6 := HIs.store (h := hd) (B := w.heap.size + 1 + 1) (F := w.heap.size + 1 + 1) (g := w.heap.size + 1) v6 k2 e2 f2 (Nat.le_refl _) (by omega)
  refine ⟨?_, h6, ?_, hi, ?_⟩
  · exact (h5.other _ _ (by simp only; omega) (by simp only; omega)).other _ _ (by simp only; omega) (by simp only; omega)
  · exact ownsRow_setCell_below (ownsRow_setCell_below (ownsRow_setCell_below (ownsRow_setCell_below ho (by simp only; omega) _) (by simp only; omega) _) (by simp only; omega) _) (by simp only; omega) _
  · exact ((((hb.setCell (by simp only; omega) _).setCell (by simp only; omega) _).setCell (by simp only; omega) _).setCell (by simp only; omega) _)

theorem putH_form (hs : Int) (hl : List (Int × Int)) (s : Int × Int) : ∃ l' cd, putH ⟨hs, hl⟩ s = (⟨hs, l'⟩, cd) := by
  have e := putH_sl ⟨hs, hl⟩ s
  rcases hq : putH ⟨hs, hl⟩ s with ⟨⟨s', l'⟩, cd⟩
  rw [hq] at e
  simp only at e
  subst e
  exact ⟨l', cd, rfl⟩

/-- What the two Seals say, in one set of letters. -/
structure Sealed (hs : Int) (l' : List (Int × Int)) (hs' : Int) (l6 : List (Int × Int)) (fr tz cg : Int) : Prop where
  eq : sealH ⟨hs, l'⟩ = (⟨hs', []⟩, l6, fr, tz, cg)
  way : (cg = 9 ∧ l6 = []) ∨ (cg = 0 ∧ fr = hs ∧ tz = hs' ∧ 0 < l6.length ∧ l6.length ≤ 64 ∧ lastT l6 = tz - 1 ∧ 0 ≤ tz ∧ tz ≤ 1099511627776)
theorem seals {w w7 : World} {hs : Int} {l' out : List (Int × Int)} {v7 : Value} {L : Nat} {A A2 : Option Addr} {n cap n2 cap2 : Nat} (H : PInv w w7 ⟨hs, l'⟩ out v7 L A n cap A2 n2 cap2) (hm : Hd.may ⟨hs, l'⟩) : ∃ hs' l6 fr tz cg, Sealed hs l' hs' l6 fr tz cg ∧
    (∀ u, Below w7.heap.size w7 u → Calls Try.prog 14 #[.agg #[.int .i64 hs, .slice A n cap]] u fun e w' => ∃ A6 cap6 A7 n7 cap7, e = .returned (.tuple #[.agg #[.int .i64 hs', .slice A6 0 cap6], .slice A7 n7 cap7, .int .i64 fr, .int .i64 tz, .int .i64 cg]) ∧ Out u w' u.heap.size A6 cap6 [] ∧ Out u w' u.heap.size A7 cap7 l6 ∧ l6.length = n7) ∧
    (∀ u, Below w7.heap.size w7 u → Calls Try.prog 15 #[.agg #[.int .i64 hs, .slice A2 n2 cap2]] u fun e w' => ∃ A8 cap8 A9 n9 cap9 fr' tz', e = .returned (.tuple #[.agg #[.int .i64 hs', .slice A8 0 cap8], .slice A9 n9 cap9, .int .i64 fr', .int .i64 tz', .int .i64 cg]) ∧ Row w' A8 cap8 [] ∧ (∀ a, A8 = some a → w.heap.size + 1 + 1 ≤ a.block) ∧ Below u.heap.size u w') := by
  have hn := H.a.len
  have hn2 := H.b.len
  simp only at hn hn2
  by_cases h0 : l' = []
  · subst h0
    simp only [List.length_nil] at hn hn2
    subst hn hn2
    refine ⟨hs, [], 0, 0, 9, ⟨?_, .inl ⟨rfl, rfl⟩⟩, fun u hu => ?_, fun u hu => ?_⟩
    · rcases seal_cases hm with ⟨_, e⟩ | ⟨h, _⟩
      · exact e
      · exact absurd rfl h
    · refine (seal_none (H.a.row.below hu) hm).mono ?_
      rintro e w' ⟨A6, cap6, rfl, ho⟩
      exact ⟨A6, cap6, none, 0, 0, rfl, ho, ⟨Row.none _, (fun a e => by cases e), ho.below⟩, rfl⟩
    · refine (rseal_none (H.b.row.below hu) hm).mono ?_
      rintro e w' ⟨rfl, hb⟩
      exact ⟨A2, cap2, none, 0, 0, 0, 0, rfl, (H.b.row.below hu).below hb, H.b.fresh, hb⟩
  · have hp : 0 < l'.length := List.length_pos_iff.2 h0
    have h64 := hm.2.2.2.1
    have hlast := hm.2.2.2.2 _ (last_mem h0)
    have hs0 := hm.1
    simp only at h64 hlast hs0
    have hT : (l'.getD (l'.length - 1) (0, 0)).1 = lastT l' := rfl
    rw [hT] at hlast
    refine ⟨lastT l' + 1, l', hs, lastT l' + 1, 0, ⟨?_, .inr ⟨rfl, rfl, rfl, hp, h64, by omega, by omega, by omega⟩⟩, fun u hu => ?_, fun u hu => ?_⟩
    · rcases seal_cases hm with ⟨h, _⟩ | ⟨_, e⟩
      · exact absurd h h0
      · exact e
    · refine (seal_some (H.a.row.below hu) hn (by omega) hm).mono ?_
      rintro e w' ⟨A7, cap7, rfl, ho⟩
      exact ⟨none, 0, A7, n, cap7, rfl, ⟨Row.none _, (fun a e => by cases e), ho.below⟩, ho, hn⟩
    · refine (rseal_some (H.b.row.below hu) hn2 (by omega) hm).mono ?_
      rintro e w' ⟨rfl, hb⟩
      exact ⟨none, 0, A2, n2, cap2, hs, lastT l' + 1, rfl, Row.none _, (fun a e => by cases e), hb⟩
theorem HVar.grown {w w' : World} {g : Nat} {a b : Value} {row : Option Nat} (h : HVar w g a b) (hg : w.grownBy w' row) (hne : some g ≠ row) : HVar w' g a b := by
  have e : w'.heap[g]? = w.heap[g]? := hg.block g h.lt hne
  exact ⟨(World.cell?_of_block (w := w) (a := ⟨g, 0, none⟩) e).trans h.c0, (World.cell?_of_block (w := w) (a := ⟨g, 1, none⟩) e).trans h.c1, (World.frozen?_of_block (w := w) (a := ⟨g, 0, none⟩) e).trans h.f0, (World.frozen?_of_block (w := w) (a := ⟨g, 1, none⟩) e).trans h.f1⟩
/-- What came out, and more behind it. -/
theorem PInv.more {w wr w2 : World} {hs : Int} {out l6 : List (Int × Int)} {v7 v7' : Value} {L m : Nat} {A A2 : Option Addr} {n cap n2 cap2 : Nat} (H : PInv w wr ⟨hs, []⟩ out v7 L A n cap A2 n2 cap2) (hi : In2 l6)
    (ho : w2.ownsRow (w.heap.size + 1 + 1) 30 2 v7' (L + m) (sampV (out ++ l6))) (hg : wr.grownBy w2 v7.ownBlock) : PInv w w2 ⟨hs, []⟩ (out ++ l6) v7' (L + m) A n cap A2 n2 cap2 := by
  have hne : ∀ g, g < w.heap.size + 1 + 1 → some g ≠ v7.ownBlock := fun g hlt e => by
    have := (H.own.lt g e.symm).1
    omega
  refine ⟨⟨HVar.grown H.a.v hg (hne _ (by omega)), ⟨⟨fun s hs => by simp at hs, fun h => by simp at h⟩, H.a.row.le, H.a.row.max, H.a.row.nil⟩, H.a.len, H.a.fresh⟩, ⟨HVar.grown H.b.v hg (hne _ (by omega)), ⟨⟨fun s hs => by simp at hs, fun h => by simp at h⟩, H.b.row.le, H.b.row.max, H.b.row.nil⟩, H.b.len, H.b.fresh⟩, ho, fun s hs => ?_, ?_⟩
  · rw [List.mem_append] at hs
    rcases hs with hs | hs
    · exact H.inn s hs
    · exact hi s hs
  · refine H.below.grown hg H.below.size (fun k e => ?_)
    have := (H.own.lt k e).1
    omega

set_option maxRecDepth 100000 in
set_option maxHeartbeats 2000000 in
theorem walk (a0 : Option Addr) (len0 cap0 : Nat) (z0 : List Int) (a1 : Option Addr) (len1 cap1 : Nat) (z1 : List Int) (w : World) (w0 : IsRow .i64 w a0 len0 cap0 z0) (w1 : IsRow .i64 w a1 len1 cap1 z1) :
    Calls Try.prog 4 #[.slice a0 len0 cap0, .slice a1 len1 cap1] w fun e w' => e = .returned (.bool true) ∧ Below w.heap.size w w' := by
  obtain ⟨l0, hI0⟩ := ints_of_row w0
  obtain ⟨l1, hI1⟩ := ints_of_row w1
  have S0 := Lib.hid hI0
  have S1 := Lib.hid hI1
  have hmx : len0 ≤ 9223372036854775807 := by have h1 := hI0.2.2.2.1; have h2 := hI0.2.2.2.2.1; unfold maxLen at h2; omega
  have hmx1 : len1 ≤ 9223372036854775807 := by have h1 := hI1.2.2.2.1; have h2 := hI1.2.2.2.2.1; unfold maxLen at h2; omega
  clear w0 w1 hI0 hI1
  obtain ⟨M, hM⟩ : ∃ M, M = min len0 100 := ⟨_, rfl⟩
  have hM20 : M ≤ 100 := by omega
  have hMl : M ≤ len0 := by omega
  have hMe : M = len0 ∨ M = 100 := by omega
  have HME := Lib.hid hMe
  clear hM hMe
  go_enter Try.func4, Try.ntmps4
  go_wp2
  go_loopw [7, 8, 9] (fun s7 s8 si wr => ∃ (i N : Nat), i ≤ M ∧ N ≤ i ∧ s8 = .int .i64 (N : Int) ∧ si = .int .i64 (i : Int) ∧ Hid (∃ hd out L A n cap A2 n2 cap2, Played hd out N ∧ PInv w wr hd out s7 L A n cap A2 n2 cap2)) (fun _ _ si _ => M - (intOf si).toNat)
  case atStart =>
    refine ⟨0, 0, by omega, by omega, rfl, rfl, Lib.hid ⟨Hd.none, [], 0, none, 0, 0, none, 0, 0, Played.none, ⟨(HVar.new _ _ _ _).below (below_box _ _), Row.none _, rfl, fun a e => by cases e⟩, ⟨?_, Row.none _, rfl, fun a e => by cases e⟩, World.ownsRow_nil _ _ _ _, fun s hs => by simp at hs, past2 _ _ _⟩⟩
    have := HVar.new (w.alloc (.cells #[.int .i64 0, .slice none 0 0] 25)) (.int .i64 0) (.slice none 0 0) 25
    rwa [show (w.alloc (.cells #[.int .i64 0, .slice none 0 0] 25)).heap.size = w.heap.size + 1 by simp] at this
  case round =>
    obtain ⟨i, N, hi, hNi, rfl, rfl, HE⟩ := hrel
    obtain ⟨⟨hs, hl⟩, out, L, A, n, cap, A2, n2, cap2, hpl, hI⟩ := HE.out
    have HPL0 := Lib.hid hpl
    have HI := Lib.hid hI
    clear hI HE hpl
    by_cases hlt : i < M
    · obtain ⟨b, off, rfl, hcell⟩ := S0.out.2.2.1 (by omega)
      have c := hcell i (by omega)
      rw [← HI.out.below.cell (World.block_lt_of_cell? w _ c)] at c
      generalize l0.getD i 0 = T at c
      clear hcell
      obtain ⟨x, hx, hx0, hx1⟩ := wrap_u64_rem (a := T) 300 (by decide)
      obtain ⟨U, hU⟩ : ∃ U, IntKind.u64.wrap T = U := ⟨_, rfl⟩
      rw [hU] at hx
      have k1 : IntKind.i64.wrap x = x := by rw [IntKind.wrap_i64]; omega
      have i2 : (i : Int) < (len0 : Int) := by omega
      have i3 : (i : Int) < 100 := by omega
      have i4 : (0 : Int) ≤ (i : Int) := by omega
      have HIN : Hid (inT x) := Lib.hid (by unfold inT; omega)
      have HVI : Hid (In64 (i : Int)) := Lib.hid (by unfold In64; omega)
      have HWB := Lib.hid (below_box wr (.cells #[.int .i64 x, .int .i64 (i : Int)] 30))
      have HWV := Lib.hid (HVar.new wr (.int .i64 x) (.int .i64 (i : Int)) 30)
      have HW0 := Lib.hid HI.out.a.v.lt
      go_upto_region 8 with fail
      have HJ := Lib.hid (HI.out.on HWB.out)
      generalize wr.alloc (.cells #[.int .i64 x, .int .i64 (i : Int)] 30) = w1 at *
      generalize wr.heap.size = gs at *
      clear HI c
      obtain ⟨l', cd, hy⟩ := putH_form hs hl (x, (i : Int))
      have MP : Hid (Calls Try.prog 8 #[.agg #[.int .i64 hs, .slice A n cap], .agg #[.int .i64 x, .int .i64 (i : Int)]] w1 fun e w2 => ∃ A' cap' n', e = .returned (.tuple #[.agg #[.int .i64 hs, .slice A' n' cap'], .int .i64 cd]) ∧ l'.length = n' ∧ Out w1 w2 w1.heap.size A' cap' l') := Lib.hid (by
        have := HJ.out.a.puts HPL0.out.may HIN.out HVI.out
        unfold PutPost at this
        dsimp only at this
        rw [hy] at this
        exact this)
      have MR : Hid (∀ w', Below w1.heap.size w1 w' → Calls Try.prog 12 #[.agg #[.int .i64 hs, .slice A2 n2 cap2], .agg #[.int .i64 x, .int .i64 (i : Int)]] w' fun e w2 => ∃ A' cap' n', e = .returned (.tuple #[.agg #[.int .i64 hs, .slice A' n' cap'], .int .i64 cd]) ∧ l'.length = n' ∧ Row w2 A' cap' l' ∧ (∀ a, A' = some a → A2 = some a ∨ w'.heap.size ≤ a.block) ∧ Below w'.heap.size w' w2) := Lib.hid (fun w' hb => by
        have hb2 := HJ.out.b.below hb
        have := rput_any (S := hs) hb2.row hb2.len HPL0.out.may HIN.out HVI.out
        unfold RPost at this
        dsimp only at this
        rw [hy] at this
        exact this)
      have HPL : Hid (Played ⟨hs, l'⟩ out (if cd = 0 then N + 1 else N)) := Lib.hid (by
        have := HPL0.out.put (x, (i : Int))
        rw [hy] at this
        exact this)
      clear hy
      have c0 := HJ.out.a.v.c0
      have c1 := HJ.out.a.v.c1
      have d0 := HWV.out.c0
      have d1 := HWV.out.c1
      dsimp only at c0
      go_wp2_with fail
      refine MP.out.mono ?_
      rintro e w2 ⟨A3, cap3, n3, rfl, hn3, ho⟩
      have HN3 := Lib.hid hn3
      have HB2 := Lib.hid ho.below
      have HR3 := Lib.hid (ho.row.below (below_box w2 (.cells #[.int .i64 hs, .slice A3 n3 cap3] 25)))
      have HF3 := Lib.hid ho.fresh
      have HV3 := Lib.hid (HVar.new w2 (.int .i64 hs) (.slice A3 n3 cap3) 25)
      have HB3 := Lib.hid (past ho.below (below_box w2 (.cells #[.int .i64 hs, .slice A3 n3 cap3] 25)))
      have HG3 := Lib.hid ho.below.size
      clear hn3 ho c0 c1 d0 d1 MP
      go_upto_region 9 with fail
      generalize w2.alloc (.cells #[.int .i64 hs, .slice A3 n3 cap3] 25) = w3 at *
      generalize w2.heap.size = g3 at *
      have c0 := (HJ.out.b.below HB3.out).v.c0
      have c1 := (HJ.out.b.below HB3.out).v.c1
      have d0 := (HWV.out.below HB3.out).c0
      have d1 := (HWV.out.below HB3.out).c1
      dsimp only at c0
      go_wp2_with fail
      refine (MR.out _ HB3.out).mono ?_
      rintro e w4 ⟨A5, cap5, n5, rfl, hn5, hr5, hf5, hb5⟩
      have HN5 := Lib.hid hn5
      have HR5 := Lib.hid (hr5.below (below_box w4 (.cells #[.int .i64 hs, .slice A5 n5 cap5] 25)))
      have HF5 := Lib.hid hf5
      have HV5 := Lib.hid (HVar.new w4 (.int .i64 hs) (.slice A5 n5 cap5) 25)
      have HB5 := Lib.hid (past hb5 (below_box w4 (.cells #[.int .i64 hs, .slice A5 n5 cap5] 25)))
      have HG5 := Lib.hid (Nat.le_trans HB3.out.size hb5.size)
      clear hn5 hr5 hf5 hb5 c0 c1 d0 d1 MR
      go_upto_region 10 with fail
      generalize w4.alloc (.cells #[.int .i64 hs, .slice A5 n5 cap5] 25) = w5 at *
      generalize w4.heap.size = g5 at *
      have HR3' := Lib.hid (HR3.out.below HB5.out)
      have HV3' := Lib.hid (HV3.out.below HB5.out)
      have hnn : n5 = n3 := by rw [← HN3.out, ← HN5.out]
      subst hnn
      have c0 := HV3'.out.c0
      have c1 := HV3'.out.c1
      have d0 := HV5.out.c0
      have d1 := HV5.out.c1
      go_wp2_with fail
      refine (lsame_any HR3'.out HR5.out HN3.out).mono ?_
      rintro e w6 ⟨rfl, hb6⟩
      have HB6 := Lib.hid (past (past HB3.out HB5.out) hb6)
      have HR36 := Lib.hid (HR3'.out.below hb6)
      have HR56 := Lib.hid (HR5.out.below hb6)
      have HV36 := Lib.hid (HV3'.out.below hb6)
      have HV56 := Lib.hid (HV5.out.below hb6)
      have HJ6 := Lib.hid (HJ.out.on HB6.out)
      have HW6 : Hid (w.heap.size + 1 + 1 ≤ w1.heap.size) := Lib.hid (by have := HJ.out.b.v.lt; omega)
      have HF5' : Hid (∀ a, A5 = some a → w.heap.size + 1 + 1 ≤ a.block) := Lib.hid (fun a e => by
        rcases HF5.out a e with h | h
        · exact HJ.out.b.fresh a h
        · have := HB3.out.size; have := HW6.out; omega)
      have HF3' : Hid (∀ a, A3 = some a → w.heap.size + 1 + 1 ≤ a.block) := Lib.hid (fun a e => Nat.le_trans HW6.out (HF3.out a e))
      have HSTO : Hid (PInv w ((((w6.setCell ⟨w.heap.size, 0, none⟩ (.int .i64 hs)).setCell ⟨w.heap.size, 1, none⟩ (.slice A3 n5 cap3)).setCell ⟨w.heap.size + 1, 0, none⟩ (.int .i64 hs)).setCell ⟨w.heap.size + 1, 1, none⟩ (.slice A5 n5 cap5)).drew ⟨hs, l'⟩ out u7 L A3 n5 cap3 A5 n5 cap5) := Lib.hid (by
        have hJ := HJ6.out
        exact (pinv_both (hd := ⟨hs, l'⟩) hJ.a.v hJ.b.v HR36.out HN3.out HF3'.out HR56.out HN3.out HF5'.out hJ.own hJ.inn hJ.below).on (Below.refl _ _).drew)
      clear hb6 c0 c1 d0 d1 HB3 HB5 HR3 HR3' HV3 HV3' HV5 HR5 HF3 HF5 HWV HB2 HWB HW0 HN5
      obtain ⟨a0', a1', b0', b1'⟩ := HV36.out
      obtain ⟨e0', e1', f0', f1'⟩ := HV56.out
      obtain ⟨p0', p1', q0', q1'⟩ := HJ6.out.a.v
      obtain ⟨r0', r1', s0', s1'⟩ := HJ6.out.b.v
      dsimp only at p0' r0'
      go_upto_region 12 with fail
      have z1 : g3 ≠ w.heap.size := by have := HG3.out; have := HW6.out; omega
      have z2 : w.heap.size ≠ g3 := z1.symm
      have z3 : g3 ≠ w.heap.size + 1 := by have := HG3.out; have := HW6.out; omega
      have z4 : w.heap.size + 1 ≠ g3 := z3.symm
      have z5 : g5 ≠ w.heap.size := by have := HG5.out; have := HW6.out; omega
      have z6 : w.heap.size ≠ g5 := z5.symm
      have z7 : g5 ≠ w.heap.size + 1 := by have := HG5.out; have := HW6.out; omega
      have z8 : w.heap.size + 1 ≠ g5 := z7.symm
      go_region
      clear z1 z2 z3 z4 z5 z6 z7 z8 a0' a1' b0' b1' e0' e1' f0' f1' p0' p1' q0' q1' r0' r1' s0' s1'
      generalize ((((w6.setCell ⟨w.heap.size, 0, none⟩ (.int .i64 hs)).setCell ⟨w.heap.size, 1, none⟩ (.slice A3 n5 cap3)).setCell ⟨w.heap.size + 1, 0, none⟩ (.int .i64 hs)).setCell ⟨w.heap.size + 1, 1, none⟩ (.slice A5 n5 cap5)).drew = w7 at *
      clear HJ HJ6 HR36 HR56 HV36 HV56 HF3' HF5' HB6 HN3 HG3 HG5 HW6 HIN HVI
      have HI7 := HSTO
      clear HSTO
      by_cases hcd : cd = 0
      case' pos =>
        obtain ⟨N2, hN2⟩ : ∃ N2, N2 = N + 1 := ⟨_, rfl⟩
        have kN : IntKind.i64.wrap ((N : Int) + 1) = (N2 : Int) := by rw [IntKind.wrap_i64]; omega
        have HPL2 : Hid (Played ⟨hs, l'⟩ out N2) := Lib.hid (by
          have := HPL.out
          rw [if_pos hcd, ← hN2] at this
          exact this)
        have hN2i : N2 ≤ i + 1 := by omega
        have hcd' : (cd == 0) = true := by simpa using hcd
      case' neg =>
        obtain ⟨N2, hN2⟩ : ∃ N2, N2 = N := ⟨_, rfl⟩
        have HPL2 : Hid (Played ⟨hs, l'⟩ out N2) := Lib.hid (by
          have := HPL.out
          rw [if_neg hcd, ← hN2] at this
          exact this)
        have hN2i : N2 ≤ i + 1 := by omega
        have hcd' : (cd == 0) = false := by simpa using hcd
        have kN : (N : Int) = (N2 : Int) := by omega
        rw [kN]
      all_goals
        clear hcd HPL hN2
        go_upto_region 15 with fail
      all_goals
        by_cases hs1 : i < len1
        case' neg =>
          have i5 : ¬ (i : Int) < (len1 : Int) := by omega
          go_wp2
          go_roundw
          case rel => exact ⟨i + 1, N2, by omega, hN2i, rfl, by go_num, Lib.hid ⟨_, _, _, _, _, _, _, _, _, HPL2.out, HI7.out⟩⟩
          case measure => simp [intOf]; omega
        obtain ⟨b1, off1, rfl, hcell1⟩ := S1.out.2.2.1 (by omega)
        have cz := hcell1 i hs1
        rw [← HI7.out.below.cell (World.block_lt_of_cell? w _ cz)] at cz
        generalize l1.getD i 0 = Z at cz
        clear hcell1
        have i5 : (i : Int) < (len1 : Int) := by omega
        obtain ⟨hs', l6, fr, tz, cg, hSE, m14, m15⟩ := seals HI7.out HPL2.out.may
        have HSE := Lib.hid hSE
        have M14 := Lib.hid m14
        have M15 := Lib.hid m15
        have c0 := HI7.out.a.v.c0
        have c1 := HI7.out.a.v.c1
        dsimp only at c0
        clear hSE m14 m15
        go_wp2_with fail
        case' roundEnd =>
          go_roundw
          case rel => exact ⟨i + 1, N2, by omega, hN2i, rfl, by go_num, Lib.hid ⟨_, _, _, _, _, _, _, _, _, HPL2.out, HI7.out⟩⟩
          case measure => simp [intOf]; omega
        refine (M14.out _ (Below.refl _ _)).mono ?_
        rintro e w8 ⟨A6, cap6, A7, n7, cap7, rfl, ho6, ho7, hn7⟩
        have HN7 := Lib.hid hn7
        have HO6 := Lib.hid (ho6.on (below_box w8 (.cells #[.int .i64 hs', .slice A6 0 cap6] 25)))
        have HO7 := Lib.hid (ho7.on (below_box w8 (.cells #[.int .i64 hs', .slice A6 0 cap6] 25)))
        have HVC := Lib.hid (HVar.new w8 (.int .i64 hs') (.slice A6 0 cap6) 25)
        have HGC := Lib.hid ho6.below.size
        have HW7 : Hid (w.heap.size + 1 + 1 ≤ w7.heap.size) := Lib.hid (by have := HI7.out.b.v.lt; omega)
        clear ho6 ho7 hn7 c0 c1 cz M14
        go_upto_region 17 with fail
        generalize w8.alloc (.cells #[.int .i64 hs', .slice A6 0 cap6] 25) = w9 at *
        generalize w8.heap.size = gc at *
        have c0 := (HI7.out.b.below HO6.out.below).v.c0
        have c1 := (HI7.out.b.below HO6.out.below).v.c1
        dsimp only at c0
        go_wp2_with fail
        refine (M15.out _ HO6.out.below).mono ?_
        rintro e w10 ⟨A8, cap8, A9, n9, cap9, fr', tz', rfl, hr8, hf8, hb8⟩
        have HR8 := Lib.hid (hr8.below (below_box w10 (.cells #[.int .i64 hs', .slice A8 0 cap8] 25)))
        have HF8 := Lib.hid hf8
        have HB8 := Lib.hid (past hb8 (below_box w10 (.cells #[.int .i64 hs', .slice A8 0 cap8] 25)))
        have HVD := Lib.hid (HVar.new w10 (.int .i64 hs') (.slice A8 0 cap8) 25)
        have HGD := Lib.hid (Nat.le_trans HO6.out.below.size hb8.size)
        clear hr8 hf8 hb8 c0 c1 M15
        go_upto_region 18 with fail
        generalize w10.alloc (.cells #[.int .i64 hs', .slice A8 0 cap8] 25) = w11 at *
        generalize w10.heap.size = gd at *
        have c0 := (HVC.out.below HB8.out).c0
        have c1 := (HVC.out.below HB8.out).c1
        have d0 := HVD.out.c0
        have d1 := HVD.out.c1
        go_wp2_with fail
        refine (lsame_any (HO6.out.row.below HB8.out) HR8.out rfl).mono ?_
        rintro e w12 ⟨rfl, hb12⟩
        have HB12 := Lib.hid (past HO6.out.below (past HB8.out hb12))
        have HI12 := Lib.hid (HI7.out.on HB12.out)
        have HR6 := Lib.hid ((HO6.out.row.below HB8.out).below hb12)
        have HR7 := Lib.hid ((HO7.out.row.below HB8.out).below hb12)
        have HR8' := Lib.hid (HR8.out.below hb12)
        have HVC' := Lib.hid ((HVC.out.below HB8.out).below hb12)
        have HVD' := Lib.hid (HVD.out.below hb12)
        have HF6 := Lib.hid HO6.out.fresh
        have HF7 := Lib.hid HO7.out.fresh
        clear hb12 c0 c1 d0 d1 HB8 HR8 HVC HVD HO6 HO7 HI7
        have HPL3 : Hid (Played ⟨hs', []⟩ (out ++ l6) N2) := Lib.hid (by
          have := HPL2.out.seal_
          rw [HSE.out.eq] at this
          exact this)
        have p0' := HI12.out.a.v.c0
        have g0' := HVC'.out.c0
        dsimp only at p0'
        have hway := HSE.out.way
        clear HSE
        have HB20 : Hid (L + n7 ≤ 1000) := Lib.hid (by
          have h1 := HPL3.out.count
          have h2 := HI12.out.len
          rw [List.length_append, HN7.out, h2] at h1
          omega)
        have HI6 : Hid (In2 l6) := Lib.hid HR7.out.samps.1
        rcases hway with ⟨hcg, hl6⟩ | ⟨hcg, hfr, htz, hp6, h64, hlast, ht0, ht1⟩
        case' inl =>
          subst hcg
          clear hl6
          go_upto_region 20 with fail
          clear p0' g0'
        case' inr =>
          subst hcg
          have w1 : (fr != hs) = false := by simp [hfr]
          have w2 : (tz != hs') = false := by simp [htz]
          clear hfr htz
          obtain ⟨b7, off7, hA7, hcell7⟩ := HR7.out.samps.2 hp6
          subst hA7
          have q7 := (hcell7 (n7 - 1) (by rw [HN7.out]; have := HN7.out; omega)).1
          have hn70 : 0 < n7 := by have := HN7.out; omega
          have hn764 : n7 ≤ 64 := by have := HN7.out; omega
          rw [show (l6.getD (n7 - 1) (0, 0)).1 = lastT l6 by rw [lastT, HN7.out], hlast] at q7
          clear hcell7 hp6 h64 hlast
          have j0 : ((n7 : Int) == 0) = false := by simp; omega
          have j1 : (1 : Int) ≤ (n7 : Int) := by omega
          have j3 : (0 : Int) ≤ (n7 : Int) - 1 := by omega
          have j4 : (n7 : Int) - 1 < (n7 : Int) := by omega
          have j5 : ((n7 : Int) - 1).toNat = n7 - 1 := by omega
          have j6 : IntKind.i64.wrap ((n7 : Int) - 1) = (n7 : Int) - 1 := by rw [IntKind.wrap_i64]; omega
          have j7 : IntKind.i64.wrap (tz - 1) = tz - 1 := by rw [IntKind.wrap_i64]; omega
          go_upto_region 20 with fail
          clear p0' g0' q7 w1 w2 j0 j1 j3 j4 j5 j6 j7 hn70 hn764 ht0 ht1
          generalize (some (⟨b7, off7, none⟩ : Addr)) = A7 at *
        all_goals
          have HF6' : Hid (∀ a, A6 = some a → w.heap.size + 1 + 1 ≤ a.block) := Lib.hid (fun a e => Nat.le_trans HW7.out (HF6.out a e))
          have HF7' : Hid (∀ a, A7 = some a → w.heap.size + 1 + 1 ≤ a.block) := Lib.hid (fun a e => Nat.le_trans HW7.out (HF7.out a e))
          have HSTO : Hid (PInv w ((((w12.setCell ⟨w.heap.size, 0, none⟩ (.int .i64 hs')).setCell ⟨w.heap.size, 1, none⟩ (.slice A6 0 cap6)).setCell ⟨w.heap.size + 1, 0, none⟩ (.int .i64 hs')).setCell ⟨w.heap.size + 1, 1, none⟩ (.slice A8 0 cap8)).drew ⟨hs', []⟩ out u7 L A6 0 cap6 A8 0 cap8) := Lib.hid (by
            have hJ := HI12.out
            exact (pinv_both (hd := ⟨hs', []⟩) hJ.a.v hJ.b.v HR6.out rfl HF6'.out HR8'.out rfl HF8.out hJ.own hJ.inn hJ.below).on (Below.refl _ _).drew)
          have HR7D : Hid (Row ((((w12.setCell ⟨w.heap.size, 0, none⟩ (.int .i64 hs')).setCell ⟨w.heap.size, 1, none⟩ (.slice A6 0 cap6)).setCell ⟨w.heap.size + 1, 0, none⟩ (.int .i64 hs')).setCell ⟨w.heap.size + 1, 1, none⟩ (.slice A8 0 cap8)).drew A7 cap7 l6) := Lib.hid (by
            have hk : ∀ (u : World) (p : Addr) (v : Value), p.block < w.heap.size + 1 + 1 → Row u A7 cap7 l6 → Row (u.setCell p v) A7 cap7 l6 := fun u p v hp hr => hr.kept (fun a e => Below.heap_setCell _ _ _ _ (by have := HF7'.out a e; omega))
            exact (hk _ _ _ (by simp only; omega) (hk _ _ _ (by simp only; omega) (hk _ _ _ (by simp only; omega) (hk _ _ _ (by simp only; omega) HR7.out)))).below (Below.refl _ _).drew)
          have z1 : gc ≠ w.heap.size := by have := HGC.out; have := HW7.out; omega
          have z2 : w.heap.size ≠ gc := z1.symm
          have z3 : gc ≠ w.heap.size + 1 := by have := HGC.out; have := HW7.out; omega
          have z4 : w.heap.size + 1 ≠ gc := z3.symm
          have z5 : gd ≠ w.heap.size := by have := HGD.out; have := HW7.out; omega
          have z6 : w.heap.size ≠ gd := z5.symm
          have z7 : gd ≠ w.heap.size + 1 := by have := HGD.out; have := HW7.out; omega
          have z8 : w.heap.size + 1 ≠ gd := z7.symm
          obtain ⟨a0', a1', b0', b1'⟩ := HVC'.out
          obtain ⟨e0', e1', f0', f1'⟩ := HVD'.out
          obtain ⟨p0', p1', q0', q1'⟩ := HI12.out.a.v
          obtain ⟨r0', r1', s0', s1'⟩ := HI12.out.b.v
          dsimp only at p0' r0'
          clear HR6 HR7 HR8' HF6 HF7 HF6' HF7' HF8
          go_region
          clear z1 z2 z3 z4 z5 z6 z7 z8 a0' a1' b0' b1' e0' e1' f0' f1' p0' p1' q0' q1' r0' r1' s0' s1'
          generalize ((((w12.setCell ⟨w.heap.size, 0, none⟩ (.int .i64 hs')).setCell ⟨w.heap.size, 1, none⟩ (.slice A6 0 cap6)).setCell ⟨w.heap.size + 1, 0, none⟩ (.int .i64 hs')).setCell ⟨w.heap.size + 1, 1, none⟩ (.slice A8 0 cap8)).drew = w13 at *
          clear HI12 HVC' HVD'
          go_wp2_with (at_builtin; refine wpList_append_samps rfl _ _ rfl (w.heap.size + 1 + 1) _ L n7 out l6 rfl HSTO.out.own A7 cap7 rfl HN7.out HR7D.out (by have := HB20.out; omega) (by have := HSTO.out.b.v.lt; omega) ?_)
          intro v14 w14 hown hgrow
          have HI14 := Lib.hid (HSTO.out.more HI6.out hown hgrow)
          clear hown hgrow HSTO HR7D
          go_wp2
          go_roundw
          case rel => exact ⟨i + 1, N2, by omega, hN2i, rfl, by go_num, Lib.hid ⟨_, _, _, _, _, _, _, _, _, HPL3.out, HI14.out⟩⟩
          case measure => simp [intOf]; omega
    · have hE : ¬ (i : Int) < (len0 : Int) ∨ ((i : Int) < (len0 : Int) ∧ ¬ (i : Int) < 100) := by have := HME.out; omega
      have hNL : N = L + n := by
        have h1 := HPL0.out.count
        have h2 := HI.out.len
        have h3 := HI.out.a.len
        dsimp only at h1 h3
        omega
      obtain ⟨A7, cap7, hv7, hr7, hl7, hf7⟩ := row_of_own HI.out.own HI.out.inn
      subst hv7
      have HR7 := Lib.hid hr7
      have HL7 := Lib.hid hl7
      have HPA := Lib.hid HPL0.out.pair
      have hL100 : L ≤ 100 := by omega
      have HNL := Lib.hid hNL
      clear hr7 hl7 hf7 hNL
      rcases hE with hE | ⟨hE, hE2⟩
      all_goals
        go_wp2
        go_loopw [25] (fun si wz => ∃ (k : Nat), 1 ≤ k ∧ k ≤ L + 1 ∧ si = .int .i64 (k : Int) ∧ Hid (Below wr.heap.size wr wz)) (fun si _ => L + 1 - (intOf si).toNat)
        case atStart => exact ⟨1, by omega, by omega, rfl, Lib.hid (Below.refl _ _)⟩
        case round =>
          obtain ⟨k, hk1, hk2, hk, HBZ⟩ := hrel
          subst hk
          by_cases hkL : k < L
          · obtain ⟨b7, off7, hA7, hcell7⟩ := HR7.out.samps.2 (by rw [HL7.out]; omega)
            subst hA7
            have q1 := (hcell7 k (by rw [HL7.out]; omega)).1
            have q0 := (hcell7 (k - 1) (by rw [HL7.out]; omega)).1
            rw [← HBZ.out.cell (World.block_lt_of_cell? _ _ q1)] at q1
            rw [← HBZ.out.cell (World.block_lt_of_cell? _ _ q0)] at q0
            have hlt2 := getD_mono HPA.out (show k - 1 < k by omega) (by rw [HL7.out]; omega)
            generalize (out.getD k (0, 0)).1 = T1 at q1 hlt2
            generalize (out.getD (k - 1) (0, 0)).1 = T0 at q0 hlt2
            have hle : decide (T1 ≤ T0) = false := decide_eq_false (by omega)
            clear hcell7 hlt2
            have i1 : (k : Int) < (L : Int) := by omega
            have i2 : (0 : Int) ≤ (k : Int) := by omega
            have i3 : (0 : Int) ≤ (k : Int) - 1 := by omega
            have i4 : (k : Int) - 1 < (L : Int) := by omega
            have i5 : ((k : Int) - 1).toNat = k - 1 := by omega
            have i6 : IntKind.i64.wrap ((k : Int) - 1) = (k : Int) - 1 := by rw [IntKind.wrap_i64]; omega
            go_upto_region 25 with fail
            go_quiet (fail)
            have HBZ2 := Lib.hid (past HBZ.out (belowN _ nq))
            clear q0 q1 hle
            go_wp2
            go_roundw
            case rel => exact ⟨k + 1, by omega, by omega, by go_num, HBZ2⟩
            case measure => simp [intOf]; omega
          · have i1 : ¬ (k : Int) < (L : Int) := by omega
            have HJ := Lib.hid (HI.out.on HBZ.out)
            have kS : IntKind.i64.wrap ((L : Int) + (n : Int)) = (N : Int) := by rw [IntKind.wrap_i64]; have := HNL.out; omega
            go_wp2_with fail
            refine (told_any _).mono ?_
            rintro e w20 ⟨rfl, hb⟩
            have HB20 := Lib.hid (past HJ.out.below hb)
            have c1 := (HJ.out.a.below hb).v.c1
            clear hb
            go_wp2
            (try rw [Exit.noGoto_ret])
            go_ret
            exact ⟨rfl, HB20.out⟩
end Go.Proofs.Ytinplchaimejbaa.headPlays
