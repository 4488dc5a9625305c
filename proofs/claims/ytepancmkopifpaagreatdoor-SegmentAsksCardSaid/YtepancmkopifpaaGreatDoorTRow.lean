/-
  Rising, below: what each returns of every row of samples; nothing that was there is written.
  Aligned: what it returns of every row of windows; nothing that was there is written.
  Rows of aggregates that a call makes: what they hold, what a reader has of them.
-/
import Derived.Test.YtepancmkopifpaaGreatDoorFoldKit
import Derived.Test.YtepancmkopifpaaGreatDoorTMath
import Derived.Deep.RegionHeld3
namespace Go.Proofs.YtepancmkopifpaaGreatDoor
open Go.RowKit
attribute [local go_sem ↓] Go.wp_at_zero Go.wp_at_succ

set_option linter.unusedVariables false
theorem quiet_same {P : Program} {f : FuncId} {args : Array Value} {w : World} {n : Nat} {v : Value} (h : Calls P f args (w.drewN n) fun e w' => e = .returned v ∧ w.drewN n = w') : Calls P f args (w.drewN n) fun e w'' => e = .returned v ∧ ∃ m, w'' = w.drewN m :=
  h.mono fun _ _ ⟨he, hm⟩ => ⟨he, n, hm.symm⟩
theorem decide_rise_false {l : List (Int × Int)} {k : Nat} (hk : k < l.length) (h : ¬ riseAt l k) : decide (Rise l) = false := decide_eq_false fun hr => h (hr k hk)
theorem rise_upto_succ {l : List (Int × Int)} {k : Nat} (h : ∀ i, i < k → riseAt l i) (hk : riseAt l k) : ∀ i, i < k + 1 → riseAt l i := fun i hi => by
  rcases Nat.lt_or_ge i k with hlt | hge
  · exact h i hlt
  · obtain rfl : i = k := by omega
    exact hk

set_option maxRecDepth 100000 in
set_option maxHeartbeats 2000000 in
theorem rising_in (b off n cap : Nat) (l : List (Int × Int)) (w : World) (hl : l.length = n) (h0 : 0 < n) (hb : In2 l) (hc : n ≤ cap) (hm : cap ≤ maxLen)
    (hcell : ∀ j, j < n → w.cell? ⟨b, off + j * 2, none⟩ = some (.int .i64 (l.getD j (0, 0)).1) ∧ w.cell? ⟨b, off + j * 2 + 1, none⟩ = some (.int .i64 (l.getD j (0, 0)).2)) :
    Calls Tryz.prog 74 #[.slice (some ⟨b, off, none⟩) n cap] w fun e w' => e = .returned (.bool (decide (Rise l))) ∧ Below w.heap.size w w' := by
  unfold maxLen at hm
  obtain ⟨B, hB⟩ : ∃ B, B = decide (Rise l) := ⟨_, rfl⟩
  rw [← hB]
  have HB := Lib.hid hB
  have HL := Lib.hid hl
  have HI := Lib.hid hb
  have HCELL := Lib.hid hcell
  have h0i : (0 : Int) < (n : Int) := by omega
  clear hB hl hb hcell
  go_enter Tryz.func74, Tryz.ntmps74
  go_wp2
  go_loopw [7] (fun si wr => ∃ (k : Nat), k ≤ n ∧ si = .int .i64 (k : Int) ∧ Hid (∀ i, i < k → riseAt l i) ∧ Hid (Below w.heap.size w wr)) (fun si _ => n - (intOf si).toNat)
  case atStart => exact ⟨0, by omega, rfl, Lib.hid (fun i hi => absurd hi (by omega)), Lib.hid (Below.refl _ _)⟩
  case round =>
    obtain ⟨k, hk, rfl, HR, HW⟩ := hrel
    by_cases hlt : k < n
    · obtain ⟨c0, c1⟩ := HCELL.out k hlt
      rw [← HW.out.cell (World.block_lt_of_cell? w _ c0)] at c0
      rw [← HW.out.cell (World.block_lt_of_cell? w _ c1)] at c1
      have hbk := HI.out (l.getD k (0, 0)) (sample_mem (by rw [HL.out]; omega))
      have hat : riseAt l k ↔ Ag.begin_ (l.getD k (0, 0)).1 ∧ (0 < k → (l.getD (k - 1) (0, 0)).1 < (l.getD k (0, 0)).1) := Iff.rfl
      generalize hs1 : l.getD k (0, 0) = s1 at c0 c1 hbk hat
      obtain ⟨t1, v1⟩ := s1
      simp only at c0 c1 hbk hat
      have m2 := fun w => mayT_any t1 w hbk.1
      have hcap : (k : Int) < (n : Int) := by omega
      have HW9 : Hid (Below w.heap.size w (wr.alloc (.cells #[.int .i64 t1, .int .i64 v1] 48))) := Lib.hid (HW.out.alloc HW.out.size _)
      have e0 : (wr.alloc (.cells #[.int .i64 t1, .int .i64 v1] 48)).cell? ⟨wr.heap.size, 0, none⟩ = some (.int .i64 t1) := by simp
      have E0 := Lib.hid e0
      have HC9 : Hid (∀ i : Nat, i < n → (wr.alloc (.cells #[.int .i64 t1, .int .i64 v1] 48)).cell? ⟨b, off + i * 2, none⟩ = some (.int .i64 (l.getD i (0, 0)).1)) := Lib.hid (fun i hi => by
        have c := (HCELL.out i hi).1
        rw [HW9.out.cell (World.block_lt_of_cell? w _ c)]; exact c)
      clear e0
      go_upto_region 4 with fail
      clear c0 c1
      have hc9 := E0.out
      generalize wr.alloc (.cells #[.int .i64 t1, .int .i64 v1] 48) = ws at *
      generalize wr.heap.size = g9 at *
      by_cases hbe : Ag.begin_ t1
      case neg =>
        rw [decide_eq_false hbe] at m2
        have M2 := Lib.hid m2
        have HN : Hid (B = false) := Lib.hid (by rw [HB.out]; exact decide_rise_false (by rw [HL.out]; exact hlt) (fun h => hbe (hat.1 h).1))
        clear m2 hat hbe hs1
        go_quiet ((go_at_call 95; exact quiet_same (M2.out _)))
        go_wp2
        (try rw [Exit.noGoto_ret])
        go_ret
        exact ⟨by rw [HN.out]; rfl, past HW9.out (belowN _ _)⟩
      rw [decide_eq_true hbe] at m2
      have M2 := Lib.hid m2
      by_cases hk0 : 0 < k
      · have c2 := HC9.out (k - 1) (by omega)
        generalize hs0 : (l.getD (k - 1) (0, 0)).1 = t0 at c2 hat
        have i1 : (0 : Int) < (k : Int) := by omega
        have i2 : (1 : Int) ≤ (k : Int) := by omega
        have i3 : (0 : Int) ≤ (k : Int) - 1 := by omega
        have i4 : (k : Int) - 1 < (n : Int) := by omega
        have i5 : ((k : Int) - 1).toNat = k - 1 := by omega
        have i6 : IntKind.i64.wrap ((k : Int) - 1) = (k : Int) - 1 := by rw [IntKind.wrap_i64]; omega
        by_cases hle : t1 ≤ t0
        · have HN : Hid (B = false) := Lib.hid (by rw [HB.out]; exact decide_rise_false (by rw [HL.out]; exact hlt) (fun h => absurd ((hat.1 h).2 hk0) (by omega)))
          clear m2 hat hbe hs1 hs0
          go_quiet ((go_at_call 95; exact quiet_same (M2.out _)))
          go_wp2
          (try rw [Exit.noGoto_ret])
          go_ret
          exact ⟨by rw [HN.out]; rfl, past HW9.out (belowN _ _)⟩
        · have HN : Hid (∀ i, i < k + 1 → riseAt l i) := Lib.hid (rise_upto_succ HR.out (hat.2 ⟨hbe, fun _ => by omega⟩))
          have hle' : decide (t1 ≤ t0) = false := decide_eq_false hle
          clear m2 hat hbe hs1 hs0 hle
          go_quiet ((go_at_call 95; exact quiet_same (M2.out _)))
          go_wp2
          go_roundw
          case rel => exact ⟨k + 1, by omega, by go_num, HN, Lib.hid (past HW9.out (belowN _ _))⟩
          case measure => simp [intOf]; omega
      · have HN : Hid (∀ i, i < k + 1 → riseAt l i) := Lib.hid (rise_upto_succ HR.out (hat.2 ⟨hbe, fun h => absurd h hk0⟩))
        obtain rfl : k = 0 := by omega
        clear m2 hat hbe hs1 hk0
        simp only [Int.ofNat_zero] at *
        go_quiet ((go_at_call 95; exact quiet_same (M2.out _)))
        go_wp2
        go_roundw
        case rel => exact ⟨0 + 1, by omega, by go_num, HN, Lib.hid (past HW9.out (belowN _ _))⟩
        case measure => simp [intOf]; omega
    · have HN : Hid (B = true) := Lib.hid (by rw [HB.out]; exact decide_eq_true (fun i hi => HR.out i (by rw [HL.out] at hi; omega)))
      go_wp2
      (try rw [Exit.noGoto_ret])
      go_ret
      exact ⟨by rw [HN.out]; rfl, HW.out⟩

set_option maxRecDepth 100000 in
theorem rising_none (A : Option Addr) (cap : Nat) (w : World) : Calls Tryz.prog 74 #[.slice A 0 cap] w fun e w' => e = .returned (.bool true) ∧ Below w.heap.size w w' := by
  go_enter Tryz.func74, Tryz.ntmps74
  go_wp2
  refine wp_loop_rounds 1 ?_
  rw [rounds_succ]
  go_wp2
  (try rw [Exit.noGoto_ret])
  go_ret
  exact ⟨rfl, Below.refl _ _⟩

theorem rising_any {A : Option Addr} {len cap : Nat} {l : List (Int × Int)} {w : World} (hl : l.length = len) (hS : Samps w A l) (hc : len ≤ cap) (hm : cap ≤ maxLen) :
    Calls Tryz.prog 74 #[.slice A len cap] w fun e w' => e = .returned (.bool (decide (Rise l))) ∧ Below w.heap.size w w' := by
  by_cases h0 : 0 < len
  · obtain ⟨b, off, rfl, hcell⟩ := hS.2 (by omega)
    rw [hl] at hcell
    exact rising_in b off len cap l w hl h0 hS.1 hc hm hcell
  · obtain rfl : len = 0 := by omega
    rw [decide_eq_true (show Rise l from fun i hi => absurd hi (by omega))]
    exact rising_none A cap w

set_option maxRecDepth 100000 in
set_option maxHeartbeats 2000000 in
theorem below_in (b off n cap : Nat) (l : List (Int × Int)) (E : Int) (w : World) (hl : l.length = n) (hb : In2 l) (hc : n ≤ cap) (hm : cap ≤ maxLen)
    (hcell : ∀ j, j < n → w.cell? ⟨b, off + j * 2, none⟩ = some (.int .i64 (l.getD j (0, 0)).1) ∧ w.cell? ⟨b, off + j * 2 + 1, none⟩ = some (.int .i64 (l.getD j (0, 0)).2)) :
    Calls Tryz.prog 90 #[.slice (some ⟨b, off, none⟩) n cap, .int .i64 E] w fun e w' => e = .returned (.int .i64 (cnt E l : Nat)) ∧ w = w' := by
  unfold maxLen at hm
  have HL := Lib.hid hl
  have HI := Lib.hid hb
  have HCELL := Lib.hid hcell
  obtain ⟨R, hR⟩ : ∃ R, cnt E l = R := ⟨_, rfl⟩
  rw [hR]
  have HR := Lib.hid hR
  clear hl hb hcell hR
  go_enter Tryz.func90, Tryz.ntmps90
  go_wp2
  go_loopw [5] (fun si wr => ∃ (k : Nat), k ≤ n ∧ si = .int .i64 (k : Int) ∧ Hid (∀ i, i < k → tAt l i < E) ∧ w = wr) (fun si _ => n - (intOf si).toNat)
  case atStart => exact ⟨0, by omega, rfl, Lib.hid (fun i hi => absurd hi (by omega)), rfl⟩
  case round =>
    obtain ⟨k, hk, rfl, HA, rfl⟩ := hrel
    by_cases hlt : k < n
    · obtain ⟨c0, _⟩ := HCELL.out k hlt
      have hbk := (HI.out (l.getD k (0, 0)) (sample_mem (by rw [HL.out]; omega))).1
      have ht : tAt l k = (l.getD k (0, 0)).1 := rfl
      rw [← ht] at c0 hbk
      clear ht
      have hcap : (k : Int) < (n : Int) := by omega
      by_cases h : tAt l k < E
      · have HN : Hid (∀ i, i < k + 1 → tAt l i < E) := Lib.hid (fun i hi => by
          rcases Nat.lt_or_ge i k with h1 | h1
          · exact HA.out i h1
          · obtain rfl : i = k := by omega
            exact h)
        generalize tAt l k = t at c0 h hbk
        go_wp2
        go_roundw
        case rel => exact ⟨k + 1, by omega, by go_num, HN, trivial⟩
        case measure => simp [intOf]; omega
      · have HN : Hid (R = k) := Lib.hid (by rw [← HR.out]; exact cnt_eq HA.out (by rw [HL.out]; omega) (fun _ => h))
        generalize tAt l k = t at c0 h hbk
        go_wp2
        (try rw [Exit.noGoto_ret])
        go_ret
        exact ⟨by rw [HN.out]; rfl, rfl⟩
    · have HN : Hid (R = k) := Lib.hid (by rw [← HR.out]; exact cnt_eq HA.out (by rw [HL.out]; omega) (fun h => absurd h (by rw [HL.out]; omega)))
      go_wp2
      (try rw [Exit.noGoto_ret])
      go_ret
      exact ⟨by rw [HN.out]; rfl, rfl⟩
end Go.Proofs.YtepancmkopifpaaGreatDoor
namespace Go.Proofs.YtepancmkopifpaaGreatDoor
open Go.RowKit
attribute [local go_sem ↓] Go.wp_at_zero Go.wp_at_succ
set_option linter.unusedVariables false

/-- The worlds that lie past ws and leave it alone. -/
def SubB (ws : World) : Type := {u : World // Below ws.heap.size ws u}
def SubB.w {ws : World} (u : SubB ws) : World := u.1
theorem SubB.le {ws : World} (u : SubB ws) : Below ws.heap.size ws u.w := u.2
instance (ws : World) : Nonempty (SubB ws) := ⟨⟨ws, Below.refl _ _⟩⟩
/-- A region that draws its order, whose operations read and whose callees may make memory: one walk, in the text's order. -/
theorem wp_region_calm {P : Program} {id : Nat} {Q : Exit → Act → World → Prop} {a : Act} {w : World} {l : List Oper} (hm : P.follows .mixedOrders = true) (hB : Region.lexB .any l.toArray = true)
    (h : wpQuiet P l.toArray (fun w' => ∃ u : SubB w, w' = u.w) (fun a' => ∀ w', (∃ u : SubB w, w' = u.w) → Q .normal a' w') l a) : (Code.region id l.toArray true).wp P Q a w :=
  wp_region_quiet (C := fun w' => ∃ u : SubB w, w' = u.w) hm hB ⟨⟨w.drew, belowN w 1⟩, rfl⟩ (by simpa using h)
theorem calm_call {P : Program} {f : FuncId} {args : Array Value} {ws : World} {u : SubB ws} {v : Value} (h : Calls P f args u.w fun e w' => e = .returned v ∧ Below u.w.heap.size u.w w') :
    Calls P f args u.w fun e w'' => e = .returned v ∧ ∃ u' : SubB ws, w'' = u'.w :=
  h.mono fun _ w' ⟨he, hb⟩ => ⟨he, ⟨w', past u.le hb⟩, rfl⟩
theorem calm_same {P : Program} {f : FuncId} {args : Array Value} {ws : World} {u : SubB ws} {v : Value} (h : Calls P f args u.w fun e w' => e = .returned v ∧ u.w = w') :
    Calls P f args u.w fun e w'' => e = .returned v ∧ ∃ u' : SubB ws, w'' = u'.w :=
  h.mono fun _ w' ⟨he, hb⟩ => ⟨he, u, hb.symm⟩

/-- Seven cells from o on hold the aggregate a. -/
def HoldsAt (w : World) (b o : Nat) (a : Ag) : Prop :=
  w.cell? ⟨b, o, none⟩ = some (.int .i64 a.fr) ∧ w.cell? ⟨b, o + 1, none⟩ = some (.int .i64 a.cn) ∧ w.cell? ⟨b, o + 2, none⟩ = some (.int .i64 a.sm) ∧ w.cell? ⟨b, o + 3, none⟩ = some (.int .i64 a.mn) ∧
  w.cell? ⟨b, o + 4, none⟩ = some (.int .i64 a.mx) ∧ w.cell? ⟨b, o + 5, none⟩ = some (.int .i64 a.fi) ∧ w.cell? ⟨b, o + 6, none⟩ = some (.int .i64 a.la)
theorem HoldsAt.lt {w : World} {b o : Nat} {a : Ag} (h : HoldsAt w b o a) : b < w.heap.size := World.block_lt_of_cell? w _ h.1
theorem HoldsAt.under {w w' : World} {b o B : Nat} {a : Ag} (h : HoldsAt w b o a) (hb : Below B w w') (hl : b < B) : HoldsAt w' b o a := by
  obtain ⟨h0, h1, h2, h3, h4, h5, h6⟩ := h
  refine ⟨?_, ?_, ?_, ?_, ?_, ?_, ?_⟩ <;> (rw [hb.cell hl]; assumption)
theorem HoldsAt.below {w w' : World} {b o : Nat} {a : Ag} (h : HoldsAt w b o a) (hb : Below w.heap.size w w') : HoldsAt w' b o a := h.under hb h.lt
/-- The slice at A reads as the aggregates l. -/
def Aggs (w : World) (A : Option Addr) (l : List Ag) : Prop :=
  (∀ a ∈ l, a.ok) ∧ (0 < l.length → ∃ b off, A = some ⟨b, off, none⟩ ∧ ∀ j, j < l.length → HoldsAt w b (off + j * 7) (agAt l j))
theorem Aggs.below {w w' : World} {A : Option Addr} {l : List Ag} (h : Aggs w A l) (hb : Below w.heap.size w w') : Aggs w' A l :=
  ⟨h.1, fun hp => by
    obtain ⟨b, off, e, hc⟩ := h.2 hp
    exact ⟨b, off, e, fun j hj => (hc j hj).below hb⟩⟩
theorem agg_mem {l : List Ag} {j : Nat} (h : j < l.length) : agAt l j ∈ l := by
  have e : agAt l j = l[j] := by simp [agAt, h]
  rw [e]; exact List.getElem_mem h
theorem decide_align_false {l : List Ag} {q : Int} {k : Nat} (hk : k < l.length) (h : ¬ alAt l q k) : decide (Align l q) = false := decide_eq_false fun hr => h (hr.2 k hk)
theorem al_upto_succ {l : List Ag} {q : Int} {k : Nat} (h : ∀ i, i < k → alAt l q i) (hk : alAt l q k) : ∀ i, i < k + 1 → alAt l q i := fun i hi => by
  rcases Nat.lt_or_ge i k with hlt | hge
  · exact h i hlt
  · obtain rfl : i = k := by omega
    exact hk

set_option maxRecDepth 100000 in
set_option maxHeartbeats 4000000 in
theorem aligned_in (b off n cap : Nat) (l : List Ag) (q : Int) (w : World) (hl : l.length = n) (h0 : 0 < n) (hb : ∀ a ∈ l, a.ok) (hc : n ≤ cap) (hm : cap ≤ maxLen) (hq : coarse q) (hw : Wid w)
    (hcell : ∀ j, j < n → HoldsAt w b (off + j * 7) (agAt l j)) :
    Calls Tryz.prog 75 #[.slice (some ⟨b, off, none⟩) n cap, .int .i64 q] w fun e w' => e = .returned (.bool (decide (Align l q))) ∧ Below w.heap.size w w' := by
  unfold maxLen at hm
  obtain ⟨B, hB⟩ : ∃ B, B = decide (Align l q) := ⟨_, rfl⟩
  rw [← hB]
  have hq64 : In64 q := by unfold coarse at hq; unfold In64; omega
  have m0 := fun w => coarse_any q w hq64
  rw [decide_eq_true hq] at m0
  have M0 := Lib.hid m0
  have HB := Lib.hid hB
  have HL := Lib.hid hl
  have HI := Lib.hid hb
  have HCELL := Lib.hid hcell
  have HQ := Lib.hid hq
  have HQ64 := Lib.hid hq64
  have HWID := Lib.hid hw
  have h0i : (0 : Int) < (n : Int) := by omega
  clear hB hl hb hcell m0 hq hq64 hw
  go_enter Tryz.func75, Tryz.ntmps75
  go_wp2_with fail
  refine (M0.out _).mono ?_
  rintro e w2 ⟨rfl, rfl⟩
  go_wp2
  go_loopw [12] (fun si wr => ∃ (k : Nat), k ≤ n ∧ si = .int .i64 (k : Int) ∧ Hid (∀ i, i < k → alAt l q i) ∧ Hid (Below w.heap.size w wr)) (fun si _ => n - (intOf si).toNat)
  case atStart => exact ⟨0, by omega, rfl, Lib.hid (fun i hi => absurd hi (by omega)), Lib.hid (Below.refl _ _)⟩
  case round =>
    obtain ⟨k, hk, rfl, HR, HW⟩ := hrel
    by_cases hlt : k < n
    · have hok := HI.out (agAt l k) (agg_mem (by rw [HL.out]; omega))
      have hat : alAt l q k ↔ (agAt l k).may ∧ (agAt l k).fr = flr (agAt l k).fr q ∧ (0 < k → (agAt l (k - 1)).fr < (agAt l k).fr) := Iff.rfl
      have hh := (HCELL.out k hlt).below HW.out
      generalize agAt l k = a at hok hat hh
      obtain ⟨c0, c1, c2, c3, c4, c5, c6⟩ := hh
      have m1 := fun w => may_any a w hok
      have m2 := fun w hw => floor_any a.fr q w hok.1 HQ64.out hw
      have hcap : (k : Int) < (n : Int) := by omega
      have HW9 : Hid (Below w.heap.size w (wr.alloc (.cells #[.int .i64 a.fr, .int .i64 a.cn, .int .i64 a.sm, .int .i64 a.mn, .int .i64 a.mx, .int .i64 a.fi, .int .i64 a.la] 50))) := Lib.hid (HW.out.alloc HW.out.size _)
      have HH9 : Hid (Holds (wr.alloc (.cells #[.int .i64 a.fr, .int .i64 a.cn, .int .i64 a.sm, .int .i64 a.mn, .int .i64 a.mx, .int .i64 a.fi, .int .i64 a.la] 50)) wr.heap.size a) := Lib.hid (Holds.new wr a)
      have HC9 : Hid (∀ i : Nat, i < n → (wr.alloc (.cells #[.int .i64 a.fr, .int .i64 a.cn, .int .i64 a.sm, .int .i64 a.mn, .int .i64 a.mx, .int .i64 a.fi, .int .i64 a.la] 50)).cell? ⟨b, off + i * 7, none⟩ = some (.int .i64 (agAt l i).fr)) := Lib.hid (fun i hi => ((HCELL.out i hi).below HW9.out).1)
      go_upto_region 6 with fail
      clear c0 c1 c2 c3 c4 c5 c6
      generalize wr.alloc (.cells #[.int .i64 a.fr, .int .i64 a.cn, .int .i64 a.sm, .int .i64 a.mn, .int .i64 a.mx, .int .i64 a.fi, .int .i64 a.la] 50) = ws at *
      generalize wr.heap.size = g9 at *
      have HWS : Hid (Wid ws) := Lib.hid (HWID.out.below HW9.out)
      unfold Ag.val at m1
      obtain ⟨d0, d1, d2, d3, d4, d5, d6⟩ := HH9.out
      have D0 : ∀ u : SubB ws, u.w.cell? ⟨g9, 0, none⟩ = some (.int .i64 a.fr) := fun u => (HH9.out.below u.le).1
      have D1 : ∀ u : SubB ws, u.w.cell? ⟨g9, 1, none⟩ = some (.int .i64 a.cn) := fun u => (HH9.out.below u.le).2.1
      have D2 : ∀ u : SubB ws, u.w.cell? ⟨g9, 2, none⟩ = some (.int .i64 a.sm) := fun u => (HH9.out.below u.le).2.2.1
      have D3 : ∀ u : SubB ws, u.w.cell? ⟨g9, 3, none⟩ = some (.int .i64 a.mn) := fun u => (HH9.out.below u.le).2.2.2.1
      have D4 : ∀ u : SubB ws, u.w.cell? ⟨g9, 4, none⟩ = some (.int .i64 a.mx) := fun u => (HH9.out.below u.le).2.2.2.2.1
      have D5 : ∀ u : SubB ws, u.w.cell? ⟨g9, 5, none⟩ = some (.int .i64 a.fi) := fun u => (HH9.out.below u.le).2.2.2.2.2.1
      have D6 : ∀ u : SubB ws, u.w.cell? ⟨g9, 6, none⟩ = some (.int .i64 a.la) := fun u => (HH9.out.below u.le).2.2.2.2.2.2
      clear d0 d1 d2 d3 d4 d5 d6
      by_cases hma : a.may
      case neg =>
        rw [decide_eq_false hma] at m1
        have M1 := Lib.hid m1
        have M2 := Lib.hid m2
        have HN : Hid (B = false) := Lib.hid (by rw [HB.out]; exact decide_align_false (by rw [HL.out]; exact hlt) (fun h => hma (hat.1 h).1))
        clear m1 m2 hat hma hok
        refine wp_region_calm (by kernel_rfl) (by kernel_rfl) ?_
        repeat (go_big_quiet_step ((first | (go_at_call 96; exact calm_call (M1.out _)) | (go_at_call 76; exact calm_same (M2.out _ (HWS.out.below (SubB.le _)))))))
        refine wpQuiet_nil ?_
        rintro _ ⟨u, rfl⟩
        clear D0 D1 D2 D3 D4 D5 D6
        go_wp2
        (try rw [Exit.noGoto_ret])
        go_ret
        exact ⟨by rw [HN.out]; rfl, past HW9.out u.le⟩
      rw [decide_eq_true hma] at m1
      have M1 := Lib.hid m1
      clear m1
      by_cases hfl : a.fr = flr a.fr q
      case neg =>
        have HN : Hid (B = false) := Lib.hid (by rw [HB.out]; exact decide_align_false (by rw [HL.out]; exact hlt) (fun h => hfl (hat.1 h).2.1))
        have hne : (a.fr != flr a.fr q) = true := by simpa using hfl
        generalize flr a.fr q = F at m2 hne
        have M2 := Lib.hid m2
        clear m2 hat hma hok hfl
        refine wp_region_calm (by kernel_rfl) (by kernel_rfl) ?_
        repeat (go_big_quiet_step ((first | (go_at_call 96; exact calm_call (M1.out _)) | (go_at_call 76; exact calm_same (M2.out _ (HWS.out.below (SubB.le _)))))))
        refine wpQuiet_nil ?_
        rintro _ ⟨u, rfl⟩
        clear D0 D1 D2 D3 D4 D5 D6
        go_wp2
        (try rw [Exit.noGoto_ret])
        go_ret
        exact ⟨by rw [HN.out]; rfl, past HW9.out u.le⟩
      rw [← hfl] at m2
      have M2 := Lib.hid m2
      clear m2
      by_cases hk0 : 0 < k
      · have c2 := HC9.out (k - 1) (by omega)
        generalize hs0 : (agAt l (k - 1)).fr = t0 at c2 hat
        have C2 : ∀ u : SubB ws, u.w.cell? ⟨b, off + (k - 1) * 7, none⟩ = some (.int .i64 t0) := fun u => by
          rw [u.le.cell (World.block_lt_of_cell? ws _ c2)]; exact c2
        have i1 : (0 : Int) < (k : Int) := by omega
        have i2 : (1 : Int) ≤ (k : Int) := by omega
        have i3 : (0 : Int) ≤ (k : Int) - 1 := by omega
        have i4 : (k : Int) - 1 < (n : Int) := by omega
        have i5 : ((k : Int) - 1).toNat = k - 1 := by omega
        have i6 : IntKind.i64.wrap ((k : Int) - 1) = (k : Int) - 1 := by rw [IntKind.wrap_i64]; omega
        by_cases hle : a.fr ≤ t0
        · have HN : Hid (B = false) := Lib.hid (by rw [HB.out]; exact decide_align_false (by rw [HL.out]; exact hlt) (fun h => absurd ((hat.1 h).2.2 hk0) (by omega)))
          clear hat hma hok hfl hs0 c2
          refine wp_region_calm (by kernel_rfl) (by kernel_rfl) ?_
          repeat (go_big_quiet_step ((first | (go_at_call 96; exact calm_call (M1.out _)) | (go_at_call 76; exact calm_same (M2.out _ (HWS.out.below (SubB.le _)))))))
          refine wpQuiet_nil ?_
          rintro _ ⟨u, rfl⟩
          clear D0 D1 D2 D3 D4 D5 D6
          go_wp2
          (try rw [Exit.noGoto_ret])
          go_ret
          exact ⟨by rw [HN.out]; rfl, past HW9.out u.le⟩
        · have HN : Hid (∀ i, i < k + 1 → alAt l q i) := Lib.hid (al_upto_succ HR.out (hat.2 ⟨hma, hfl, fun _ => by omega⟩))
          have hle' : decide (a.fr ≤ t0) = false := decide_eq_false hle
          clear hat hma hok hfl hs0 c2 hle
          refine wp_region_calm (by kernel_rfl) (by kernel_rfl) ?_
          repeat (go_big_quiet_step ((first | (go_at_call 96; exact calm_call (M1.out _)) | (go_at_call 76; exact calm_same (M2.out _ (HWS.out.below (SubB.le _)))))))
          refine wpQuiet_nil ?_
          rintro _ ⟨u, rfl⟩
          clear D0 D1 D2 D3 D4 D5 D6
          go_wp2
          go_roundw
          case rel => exact ⟨k + 1, by omega, by go_num, HN, Lib.hid (past HW9.out u.le)⟩
          case measure => simp [intOf]; omega
      · have HN : Hid (∀ i, i < k + 1 → alAt l q i) := Lib.hid (al_upto_succ HR.out (hat.2 ⟨hma, hfl, fun h => absurd h hk0⟩))
        obtain rfl : k = 0 := by omega
        clear hat hma hok hfl hk0
        simp only [Int.ofNat_zero] at *
        refine wp_region_calm (by kernel_rfl) (by kernel_rfl) ?_
        repeat (go_big_quiet_step ((first | (go_at_call 96; exact calm_call (M1.out _)) | (go_at_call 76; exact calm_same (M2.out _ (HWS.out.below (SubB.le _)))))))
        refine wpQuiet_nil ?_
        rintro _ ⟨u, rfl⟩
        clear D0 D1 D2 D3 D4 D5 D6
        go_wp2
        go_roundw
        case rel => exact ⟨0 + 1, by omega, by go_num, HN, Lib.hid (past HW9.out u.le)⟩
        case measure => simp [intOf]; omega
    · have HN : Hid (B = true) := Lib.hid (by rw [HB.out]; exact decide_eq_true ⟨HQ.out, fun i hi => HR.out i (by rw [HL.out] at hi; omega)⟩)
      go_wp2
      (try rw [Exit.noGoto_ret])
      go_ret
      exact ⟨by rw [HN.out]; rfl, HW.out⟩

set_option maxRecDepth 100000 in
theorem aligned_none (A : Option Addr) (cap : Nat) (q : Int) (w : World) (hq : coarse q) : Calls Tryz.prog 75 #[.slice A 0 cap, .int .i64 q] w fun e w' => e = .returned (.bool true) ∧ Below w.heap.size w w' := by
  have hq64 : In64 q := by unfold coarse at hq; unfold In64; omega
  have m0 := fun w => coarse_any q w hq64
  rw [decide_eq_true hq] at m0
  have M0 := Lib.hid m0
  clear m0 hq hq64
  go_enter Tryz.func75, Tryz.ntmps75
  go_wp2_with fail
  refine (M0.out _).mono ?_
  rintro e w2 ⟨rfl, rfl⟩
  go_wp2
  refine wp_loop_rounds 1 ?_
  rw [rounds_succ]
  go_wp2
  (try rw [Exit.noGoto_ret])
  go_ret
  exact ⟨rfl, Below.refl _ _⟩
set_option maxRecDepth 100000 in
theorem aligned_not (A : Option Addr) (len cap : Nat) (q : Int) (w : World) (hq64 : In64 q) (hq : ¬ coarse q) : Calls Tryz.prog 75 #[.slice A len cap, .int .i64 q] w fun e w' => e = .returned (.bool false) ∧ Below w.heap.size w w' := by
  have m0 := fun w => coarse_any q w hq64
  rw [decide_eq_false hq] at m0
  have M0 := Lib.hid m0
  clear m0 hq hq64
  go_enter Tryz.func75, Tryz.ntmps75
  go_wp2_with fail
  refine (M0.out _).mono ?_
  rintro e w2 ⟨rfl, rfl⟩
  go_wp2
  go_ret
  exact ⟨rfl, Below.refl _ _⟩

theorem aligned_any {A : Option Addr} {len cap : Nat} {l : List Ag} {w : World} (q : Int) (hl : l.length = len) (hS : Aggs w A l) (hc : len ≤ cap) (hm : cap ≤ maxLen) (hq : In64 q) (hw : Wid w) :
    Calls Tryz.prog 75 #[.slice A len cap, .int .i64 q] w fun e w' => e = .returned (.bool (decide (Align l q))) ∧ Below w.heap.size w w' := by
  by_cases hco : coarse q
  · by_cases h0 : 0 < len
    · obtain ⟨b, off, rfl, hcell⟩ := hS.2 (by omega)
      rw [hl] at hcell
      exact aligned_in b off len cap l q w hl h0 hS.1 hc hm hco hw hcell
    · obtain rfl : len = 0 := by omega
      rw [decide_eq_true (show Align l q from ⟨hco, fun i hi => absurd hi (by omega)⟩)]
      exact aligned_none A cap q w hco
  · rw [decide_eq_false (show ¬ Align l q from fun h => hco h.1)]
    exact aligned_not A len cap q w hq hco
end Go.Proofs.YtepancmkopifpaaGreatDoor
namespace Go.Proofs.YtepancmkopifpaaGreatDoor
open Go.RowKit

def Ag.cells (a : Ag) : List Value := [.int .i64 a.fr, .int .i64 a.cn, .int .i64 a.sm, .int .i64 a.mn, .int .i64 a.mx, .int .i64 a.fi, .int .i64 a.la]
def aggV (l : List Ag) : List Value := l.flatMap Ag.cells
theorem aggV_cons (a : Ag) (l : List Ag) : aggV (a :: l) = a.cells ++ aggV l := rfl
theorem aggV_append (a b : List Ag) : aggV (a ++ b) = aggV a ++ aggV b := by simp [aggV]
theorem aggV_one (a : Ag) : aggV [a] = a.cells := by simp [aggV]
theorem aggV_length (l : List Ag) : (aggV l).length = l.length * 7 := by
  induction l with
  | nil => rfl
  | cons a r ih =>
    rw [aggV_cons, List.length_append, ih, List.length_cons]
    show 7 + _ = _
    omega
theorem aggV_get (l : List Ag) : ∀ (j i : Nat), j < l.length → i < 7 → (aggV l)[j * 7 + i]? = (agAt l j).cells[i]? := by
  induction l with
  | nil => intro j i hj; simp at hj
  | cons a r ih =>
    intro j i hj hi
    rw [aggV_cons]
    match j with
    | 0 =>
      rw [List.getElem?_append_left (by show 0 * 7 + i < 7; omega)]
      simp [agAt]
    | j + 1 =>
      rw [List.getElem?_append_right (by show 7 ≤ (j + 1) * 7 + i; omega)]
      have e : (j + 1) * 7 + i - a.cells.length = j * 7 + i := by
        show (j + 1) * 7 + i - 7 = _
        omega
      rw [e, ih j i (by simpa using hj) hi]
      simp [agAt]
theorem cells_one (a : Ag) : ∀ u ∈ a.cells, u.oneCell' = true := by
  intro u hu
  simp [Ag.cells] at hu
  rcases hu with rfl | rfl | rfl | rfl | rfl | rfl | rfl <;> rfl
theorem Tryz.info50 : (Tryz.prog.info? 50).map (fun i => (i.zero, i.size, i.bytes)) = some (some (.agg #[.int .i64 0, .int .i64 0, .int .i64 0, .int .i64 0, .int .i64 0, .int .i64 0, .int .i64 0]), 7, 56) := by kernel_rfl

/-- What a reader has of a row: its length, its cells, its bounds. -/
def RowOf (w : World) (A : Option Addr) (len cap : Nat) (l : List Ag) : Prop := l.length = len ∧ Aggs w A l ∧ len ≤ cap ∧ cap ≤ maxLen ∧ (A = none → cap = 0)
theorem RowOf.below {w w' : World} {A : Option Addr} {len cap : Nat} {l : List Ag} (h : RowOf w A len cap l) (hb : Below w.heap.size w w') : RowOf w' A len cap l := ⟨h.1, h.2.1.below hb, h.2.2⟩
theorem rowOf_own {w : World} {base n : Nat} {v : Value} {l : List Ag} (h : w.ownsRow base 50 7 v n (aggV l)) (hb : ∀ a ∈ l, a.ok) : ∃ A cap, v = .slice A n cap ∧ RowOf w A n cap l := by
  have hn : l.length = n := by have := h.1; rw [aggV_length] at this; omega
  rcases h.2 with ⟨e, e0⟩ | ⟨g, cap, cur, rfl, hbg, hh, h1, h2, _⟩
  · subst e e0
    exact ⟨none, 0, rfl, hn, ⟨hb, fun hp => absurd hp (by omega)⟩, Nat.le_refl _, by unfold maxLen; omega, fun _ => rfl⟩
  · refine ⟨_, cap, rfl, hn, ⟨hb, fun hp => ⟨g, 0, rfl, fun j hj => ?_⟩⟩, h1, h2, fun e => by cases e⟩
    have c : ∀ i, i < 7 → w.cell? ⟨g, 0 + j * 7 + i, none⟩ = (agAt l j).cells[i]? := fun i hi => by
      rw [Nat.zero_add, h.cellAt (j * 7 + i) (by omega)]
      exact aggV_get l j i hj hi
    exact ⟨c 0 (by decide), c 1 (by decide), c 2 (by decide), c 3 (by decide), c 4 (by decide), c 5 (by decide), c 6 (by decide)⟩
theorem own7_below {w w' : World} {base n : Nat} {v : Value} {xs : List Value} (h : w.ownsRow base 50 7 v n xs) (hb : Below w.heap.size w w') : w'.ownsRow base 50 7 v n xs :=
  h.kept (row := none) ⟨hb.os, hb.tape, hb.output, hb.size, fun k hk _ => hb.block k hk⟩ (by cases v.ownBlock <;> simp)
theorem Holds.news {w : World} {g : Nat} {a : Ag} (h : Holds w g a) : ∀ j u, a.cells[j]? = some u → w.cell? ((⟨g, 0, none⟩ : Addr).add j) = some u := by
  obtain ⟨h0, h1, h2, h3, h4, h5, h6⟩ := h
  intro j u hj
  rw [addr_add, Nat.zero_add]
  match j, hj with
  | 0, hj => simp [Ag.cells] at hj; subst hj; exact h0
  | 1, hj => simp [Ag.cells] at hj; subst hj; exact h1
  | 2, hj => simp [Ag.cells] at hj; subst hj; exact h2
  | 3, hj => simp [Ag.cells] at hj; subst hj; exact h3
  | 4, hj => simp [Ag.cells] at hj; subst hj; exact h4
  | 5, hj => simp [Ag.cells] at hj; subst hj; exact h5
  | 6, hj => simp [Ag.cells] at hj; subst hj; exact h6
  | n + 7, hj => simp [Ag.cells] at hj

def lenOf : Value → Nat
  | .slice _ n _ => n
  | _ => 0
theorem Samps.sub {w : World} {b off : Nat} {l : List (Int × Int)} (h : Samps w (some ⟨b, off, none⟩) l) (c : Nat) : Samps w (some ⟨b, off, none⟩) (l.take c) := by
  refine ⟨fun s hs => h.1 s (List.mem_of_mem_take hs), fun hp => ?_⟩
  rw [List.length_take] at hp
  obtain ⟨b', off', e, hc⟩ := h.2 (by omega)
  refine ⟨b', off', e, fun j hj => ?_⟩
  rw [List.length_take] at hj
  have := hc j (by omega)
  have e2 : (l.take c).getD j (0, 0) = l.getD j (0, 0) := by
    rw [List.getD_eq_getElem?_getD, List.getD_eq_getElem?_getD, List.getElem?_take_of_lt (by omega)]
  rw [e2]
  exact this
theorem Samps.rest {w : World} {b off : Nat} {l : List (Int × Int)} (h : Samps w (some ⟨b, off, none⟩) l) (c : Nat) : Samps w (some ⟨b, off + c * 2, none⟩) (l.drop c) := by
  refine ⟨fun s hs => h.1 s (List.mem_of_mem_drop hs), fun hp => ?_⟩
  rw [List.length_drop] at hp
  obtain ⟨b', off', e, hc⟩ := h.2 (by omega)
  injection e with e
  injection e with e1 e2
  subst e1 e2
  refine ⟨b, off + c * 2, rfl, fun j hj => ?_⟩
  rw [List.length_drop] at hj
  have := hc (c + j) (by omega)
  have e2 : (l.drop c).getD j (0, 0) = l.getD (c + j) (0, 0) := by
    rw [List.getD_eq_getElem?_getD, List.getD_eq_getElem?_getD, List.getElem?_drop]
  rw [e2, show off + c * 2 + j * 2 = off + (c + j) * 2 by omega]
  exact this
theorem Samps.nil {w : World} {A B : Option Addr} {l : List (Int × Int)} (h : Samps w A l) (h0 : l.length = 0) : Samps w B l := ⟨h.1, fun hp => absurd hp (by omega)⟩
end Go.Proofs.YtepancmkopifpaaGreatDoor
