/-
  own, placeOf, May, Same of heads: what each returns; nothing that was there is written.
-/
import Derived.Test.YtinplchaimejbaaHRow
import Derived.Test.YtinplchaimejbaaHLaw
import Derived.Deep.RegionHeld3
namespace Go.Proofs.Ytinplchaimejbaa
open Go.RowKit
attribute [local go_sem ↓] Go.wp_at_zero Go.wp_at_succ
set_option linter.unusedVariables false

theorem results_cell_one {fn : Func} {p : Tmp} {ty : TypeId} (h : fn.results = #[.cell p ty]) (tmps : Array Value) (P : Program) (w : World) :
    (results fn tmps).run P w = ((asAddr (tmps.getD p undef)).run P w).andThen fun a w₁ => (loadVar ty a).run P w₁ := by
  simp only [results, h]
  simp [Sem.run_bind, Result.andThen]
theorem below_box (w : World) (o : Obj) : Below w.heap.size w (w.alloc o) := (Below.refl _ _).alloc (Nat.le_refl _) _

set_option maxRecDepth 100000 in
set_option maxHeartbeats 1000000 in
theorem mayH_any {S : Int} {n cap : Nat} {A : Option Addr} {l : List (Int × Int)} {w : World} (hS : In64 S) (hr : Row w A cap l) (hn : l.length = n) :
    Calls Try.prog 11 #[.agg #[.int .i64 S, .slice A n cap]] w fun e w' => e = .returned (.bool (decide (Hd.may ⟨S, l⟩))) ∧ Below w.heap.size w w' := by
  obtain ⟨B, hB⟩ : ∃ B, B = decide (Hd.may ⟨S, l⟩) := ⟨_, rfl⟩
  rw [← hB]
  have HB := Lib.hid hB
  obtain ⟨b, hb⟩ : ∃ b, b = decide (Rise l) := ⟨_, rfl⟩
  have m1 := fun w' (h : Below w.heap.size w w') => rising_any hn (hr.samps.below h) (by rw [← hn]; exact hr.le) hr.max
  simp only [← hb] at m1
  have M1 := Lib.hid m1
  have BB := Lib.hid hb
  have HR := Lib.hid hr
  have HN := Lib.hid hn
  have HF : Hid (¬ Hd.may ⟨S, l⟩ → B = false) := Lib.hid (fun h => by rw [hB]; exact decide_eq_false h)
  clear hB hb m1 hr hn
  by_cases c1 : S < 0
  · have HN' : Hid (B = false) := Lib.hid (HF.out (fun h => by have := h.1; simp only at this; omega))
    go_enter Try.func11, Try.ntmps11
    go_wp2
    (try simp only [Exit.inBlock, Exit.then])
    go_ret
    exact ⟨by rw [HN'.out]; rfl, below_box _ _⟩
  by_cases c2 : S > 1099511627776
  · have HN' : Hid (B = false) := Lib.hid (HF.out (fun h => by have := h.2.1; simp only at this; omega))
    go_enter Try.func11, Try.ntmps11
    go_wp2
    (try simp only [Exit.inBlock, Exit.then])
    go_ret
    exact ⟨by rw [HN'.out]; rfl, below_box _ _⟩
  by_cases c3 : (n : Int) > 64
  · have HN' : Hid (B = false) := Lib.hid (HF.out (fun h => by have := h.2.2.2.1; have := HN.out; simp only at *; omega))
    go_enter Try.func11, Try.ntmps11
    go_wp2
    (try simp only [Exit.inBlock, Exit.then])
    go_ret
    exact ⟨by rw [HN'.out]; rfl, below_box _ _⟩
  cases b
  · have HN' : Hid (B = false) := Lib.hid (HF.out (fun h => by have h1 := h.2.2.1; have h2 := BB.out; rw [decide_eq_true h1] at h2; cases h2))
    go_enter Try.func11, Try.ntmps11
    go_wp2_with fail
    refine (M1.out _ (below_box _ _)).mono ?_
    rintro e w2 ⟨rfl, hb2⟩
    have HB2 := Lib.hid (past (below_box _ _) hb2)
    clear hb2
    go_wp2
    (try simp only [Exit.inBlock, Exit.then])
    go_ret
    exact ⟨by rw [HN'.out]; rfl, HB2.out⟩
  · have hrise : Hid (Rise l) := Lib.hid (of_decide_eq_true BB.out.symm)
    clear HF
    by_cases h0 : n = 0
    · subst h0
      have HN' : Hid (B = true) := Lib.hid (by
        rw [HB.out]
        refine decide_eq_true ⟨?_, ?_, hrise.out, ?_, fun s hs => ?_⟩
        · simp only; omega
        · simp only; omega
        · have := HN.out; simp only; omega
        · rw [show l = [] from List.length_eq_zero_iff.1 HN.out] at hs; simp at hs)
      go_enter Try.func11, Try.ntmps11
      go_wp2_with fail
      refine (M1.out _ (below_box _ _)).mono ?_
      rintro e w2 ⟨rfl, hb2⟩
      have HB2 := Lib.hid (past (below_box _ _) hb2)
      have d1 : w2.cell? ⟨w.heap.size, 1, none⟩ = some (.slice A 0 cap) := by rw [hb2.cell (by simp)]; simp
      clear hb2
      go_wp2
      (try simp only [Exit.inBlock, Exit.then])
      go_ret
      exact ⟨by rw [HN'.out]; rfl, HB2.out⟩
    · have hpos : 0 < n := by omega
      obtain ⟨b, off, hA, hcell⟩ := HR.out.samps.2 (by rw [HN.out]; omega)
      subst hA
      obtain ⟨t0, ht0⟩ : ∃ t0, t0 = (l.getD 0 (0, 0)).1 := ⟨_, rfl⟩
      obtain ⟨t1, ht1⟩ : ∃ t1, t1 = (l.getD (n - 1) (0, 0)).1 := ⟨_, rfl⟩
      have hq0 := (hcell 0 (by rw [HN.out]; omega)).1
      have hq1 := (hcell (n - 1) (by rw [HN.out]; omega)).1
      rw [← ht0] at hq0
      rw [← ht1] at hq1
      have HB' : Hid (B = (decide (S ≤ t0) && decide (t1 < 1099511627776))) := Lib.hid (by
        rw [HB.out, Bool.eq_iff_iff, Bool.and_eq_true, decide_eq_true_eq, decide_eq_true_eq, decide_eq_true_eq]
        have hp := ((rise_pair l).1 hrise.out).2
        have hl := last_le hp
        have hlast : lastT l = t1 := by unfold lastT; rw [HN.out, ht1]
        rw [hlast] at hl
        constructor
        · intro h
          have h5 := h.2.2.2.2
          simp only at h5
          rw [ht0, ht1]
          exact ⟨(h5 _ (sample_mem (by rw [HN.out]; omega))).1, (h5 _ (sample_mem (by rw [HN.out]; omega))).2⟩
        · rintro ⟨h1, h2⟩
          refine ⟨by simp only; omega, by simp only; omega, hrise.out, by have := HN.out; simp only; omega, fun s hs => ?_⟩
          simp only at hs ⊢
          have h3 := hl s hs
          refine ⟨?_, by omega⟩
          obtain ⟨i, hi, rfl⟩ := List.mem_iff_getElem.1 hs
          have e0 : l.getD 0 (0, 0) = l[0]'(by omega) := by rw [List.getD_eq_getElem?_getD, List.getElem?_eq_getElem (by omega)]; rfl
          rw [e0] at ht0
          rcases Nat.eq_zero_or_pos i with e | e
          · subst e; omega
          · have := List.pairwise_iff_getElem.1 hp 0 i (by omega) hi e
            omega)
      have Q0 := Lib.hid hq0
      have Q1 := Lib.hid hq1
      clear hcell hq0 hq1 ht0 ht1 HB BB HR HN
      have h0i : (0 : Int) < (n : Int) := by omega
      go_enter Try.func11, Try.ntmps11
      go_wp2_with fail
      refine (M1.out _ (below_box _ _)).mono ?_
      rintro e w2 ⟨rfl, hb2⟩
      have HB2 := Lib.hid (past (below_box _ _) hb2)
      have d0 : w2.cell? ⟨w.heap.size, 0, none⟩ = some (.int .i64 S) := by rw [hb2.cell (by simp)]; simp
      have d1 : w2.cell? ⟨w.heap.size, 1, none⟩ = some (.slice (some ⟨b, off, none⟩) n cap) := by rw [hb2.cell (by simp)]; simp
      have q0 : w2.cell? ⟨b, off + 0 * 2, none⟩ = some (.int .i64 t0) := by rw [HB2.out.cell (World.block_lt_of_cell? w _ Q0.out)]; exact Q0.out
      have q1 : w2.cell? ⟨b, off + (n - 1) * 2, none⟩ = some (.int .i64 t1) := by rw [HB2.out.cell (World.block_lt_of_cell? w _ Q1.out)]; exact Q1.out
      rw [Nat.zero_mul, Nat.add_zero] at q0
      clear hb2 Q0 Q1 M1
      have i1 : (1 : Int) ≤ (n : Int) := by omega
      have i3 : (0 : Int) ≤ (n : Int) - 1 := by omega
      have i4 : (n : Int) - 1 < (n : Int) := by omega
      have i5 : ((n : Int) - 1).toNat = n - 1 := by omega
      have i6 : IntKind.i64.wrap ((n : Int) - 1) = (n : Int) - 1 := by rw [IntKind.wrap_i64]; omega
      go_upto_region 5 with fail
      by_cases k1 : S ≤ t0
      · have k1' : decide (S ≤ t0) = true := decide_eq_true k1
        have HB3 : Hid (B = decide (t1 < 1099511627776)) := Lib.hid (by rw [HB'.out, k1', Bool.true_and])
        clear HB'
        go_quiet (fail)
        go_wp2
        go_ret
        exact ⟨by rw [HB3.out]; rfl, past HB2.out (belowN _ _)⟩
      · have k1' : decide (S ≤ t0) = false := decide_eq_false k1
        have HB3 : Hid (B = false) := Lib.hid (by rw [HB'.out, k1', Bool.false_and])
        clear HB'
        go_quiet (fail)
        go_wp2
        go_ret
        exact ⟨by rw [HB3.out]; rfl, past HB2.out (belowN _ _)⟩

theorem cnt_at {t : Int} {l : List (Int × Int)} (hp : l.Pairwise (fun a b => a.1 < b.1)) {k : Nat} (hk : k ≤ l.length) (hlo : ∀ j, j < k → (l.getD j (0, 0)).1 < t) (hhi : ∀ j, k ≤ j → j < l.length → t < (l.getD j (0, 0)).1) :
    cnt t l = k := by
  induction l generalizing k with
  | nil => simp only [List.length_nil] at hk; simp only [cnt]; omega
  | cons x r ih =>
    show (if x.1 < t then cnt t r + 1 else 0) = k
    cases k with
    | zero =>
      have := hhi 0 (Nat.le_refl _) (by simp)
      simp only [List.getD_cons_zero] at this
      rw [if_neg (by omega)]
    | succ k =>
      have := hlo 0 (by omega)
      simp only [List.getD_cons_zero] at this
      rw [if_pos this, ih (List.pairwise_cons.1 hp).2 (k := k) (by simp only [List.length_cons] at hk; omega) (fun j hj => by have := hlo (j + 1) (by omega); rwa [List.getD_cons_succ] at this) (fun j h1 h2 => by have := hhi (j + 1) (by omega) (by simp only [List.length_cons]; omega); rwa [List.getD_cons_succ] at this)]
theorem getD_mono {l : List (Int × Int)} (hp : l.Pairwise (fun a b => a.1 < b.1)) {i j : Nat} (hij : i < j) (hj : j < l.length) : (l.getD i (0, 0)).1 < (l.getD j (0, 0)).1 := by
  rw [List.getD_eq_getElem?_getD, List.getElem?_eq_getElem (by omega), List.getD_eq_getElem?_getD, List.getElem?_eq_getElem hj]
  exact List.pairwise_iff_getElem.1 hp i j (by omega) hj hij
theorem has_iff {t : Int} {l : List (Int × Int)} : has t l ↔ ∃ j, j < l.length ∧ (l.getD j (0, 0)).1 = t := by
  constructor
  · rintro ⟨x, hx, e⟩
    obtain ⟨i, hi, rfl⟩ := List.mem_iff_getElem.1 hx
    exact ⟨i, hi, by rw [List.getD_eq_getElem?_getD, List.getElem?_eq_getElem hi]; exact e⟩
  · rintro ⟨j, hj, e⟩
    exact ⟨_, sample_mem hj, e⟩
/-- What placeOf tells. -/
def PlaceIs (t : Int) (l : List (Int × Int)) (k : Nat) (b : Bool) : Prop := b = decide (has t l) ∧ k ≤ l.length ∧ (b = false → k = cnt t l)
theorem place_there {t : Int} {l : List (Int × Int)} {k : Nat} (hk : k < l.length) (h : (l.getD k (0, 0)).1 = t) : PlaceIs t l k true :=
  ⟨(decide_eq_true (has_iff.2 ⟨k, hk, h⟩)).symm, by omega, fun e => by cases e⟩
theorem place_none {t : Int} {l : List (Int × Int)} {k : Nat} (hp : l.Pairwise (fun a b => a.1 < b.1)) (hk : k ≤ l.length) (hlo : 0 < k → (l.getD (k - 1) (0, 0)).1 < t) (hhi : ∀ j, k ≤ j → j < l.length → t < (l.getD j (0, 0)).1) : PlaceIs t l k false := by
  have hl : ∀ j, j < k → (l.getD j (0, 0)).1 < t := fun j hj => by
    have h1 := hlo (by omega)
    rcases Nat.lt_or_ge j (k - 1) with hlt | hge
    · have := getD_mono hp hlt (by omega)
      omega
    · obtain rfl : j = k - 1 := by omega
      exact h1
  refine ⟨(decide_eq_false fun h => ?_).symm, hk, fun _ => (cnt_at hp hk hl hhi).symm⟩
  obtain ⟨j, hj, e⟩ := has_iff.1 h
  rcases Nat.lt_or_ge j k with hlt | hge
  · have := hl j hlt; omega
  · have := hhi j hge hj; omega

set_option maxRecDepth 100000 in
set_option maxHeartbeats 1000000 in
theorem place_in {t : Int} {b off n cap : Nat} {l : List (Int × Int)} {w : World} (hn : l.length = n) (hl : n ≤ 64) (hp : l.Pairwise (fun a b => a.1 < b.1))
    (hcell : ∀ j, j < n → w.cell? ⟨b, off + j * 2, none⟩ = some (.int .i64 (l.getD j (0, 0)).1)) :
    Calls Try.prog 19 #[.slice (some ⟨b, off, none⟩) n cap, .int .i64 t] w fun e w' => ∃ k B, e = .returned (.tuple #[.int .i64 ((k : Nat) : Int), .bool B]) ∧ PlaceIs t l k B ∧ w = w' := by
  have HN := Lib.hid hn
  have HP := Lib.hid hp
  have HC := Lib.hid hcell
  clear hn hp hcell
  go_enter Try.func19, Try.ntmps19
  go_wp2
  go_step3
  go_wp2
  go_step3
  go_wp2
  go_loopw [6] (fun si wr => wr = w ∧ ∃ (k : Nat), k ≤ n ∧ si = .int .i64 (k : Int) ∧ Hid (∀ j, k ≤ j → j < n → t < (l.getD j (0, 0)).1)) (fun si _ => (intOf si).toNat)
  case atStart => exact ⟨rfl, n, by omega, rfl, Lib.hid (fun j h1 h2 => absurd h2 (by omega))⟩
  case round =>
    obtain ⟨rfl, k, hk, rfl, HH⟩ := hrel
    by_cases h0 : 0 < k
    · have q := HC.out (k - 1) (by omega)
      obtain ⟨T, hT⟩ : ∃ T, T = (l.getD (k - 1) (0, 0)).1 := ⟨_, rfl⟩
      rw [← hT] at q
      have HT := Lib.hid hT
      clear hT
      have i0 : (0 : Int) < (k : Int) := by omega
      have i1 : (1 : Int) ≤ (k : Int) := by omega
      have i3 : (0 : Int) ≤ (k : Int) - 1 := by omega
      have i4 : (k : Int) - 1 < (n : Int) := by omega
      have i5 : ((k : Int) - 1).toNat = k - 1 := by omega
      have i6 : IntKind.i64.wrap ((k : Int) - 1) = (k : Int) - 1 := by rw [IntKind.wrap_i64]; omega
      by_cases e1 : T = t
      · have HE : Hid (PlaceIs t l (k - 1) true) := Lib.hid (place_there (by rw [HN.out]; omega) (by rw [← HT.out, e1]))
        have e1' : (T == t) = true := by simpa using e1
        clear e1
        go_wp2
        (try rw [Exit.noGoto_ret])
        go_ret2
        exact ⟨k - 1, true, by rw [show ((k - 1 : Nat) : Int) = (k : Int) - 1 by omega]; rfl, HE.out, rfl⟩
      have e1' : (T == t) = false := by simpa using e1
      by_cases e2 : T < t
      · have HE : Hid (PlaceIs t l k false) := Lib.hid (place_none HP.out (by rw [HN.out]; omega) (fun _ => by rw [← HT.out]; exact e2) (by rw [HN.out]; exact HH.out))
        clear e1
        go_wp2
        (try rw [Exit.noGoto_ret])
        go_ret2
        exact ⟨k, false, rfl, HE.out, rfl⟩
      have HE : Hid (∀ j, k - 1 ≤ j → j < n → t < (l.getD j (0, 0)).1) := Lib.hid (fun j h1 h2 => by
        rcases Nat.lt_or_ge j k with hlt | hge
        · obtain rfl : j = k - 1 := by omega
          rw [← HT.out]
          omega
        · exact HH.out j hge h2)
      clear e1
      go_wp2
      go_roundw
      case rel => exact ⟨trivial, k - 1, by omega, by rw [show ((k - 1 : Nat) : Int) = (k : Int) - 1 by omega], HE⟩
      case measure => simp [intOf]; omega
    · obtain rfl : k = 0 := by omega
      have HE : Hid (PlaceIs t l 0 false) := Lib.hid (place_none HP.out (by omega) (fun h => absurd h (by omega)) (by rw [HN.out]; exact HH.out))
      go_wp2
      (try rw [Exit.noGoto_ret])
      go_ret2
      exact ⟨0, false, rfl, HE.out, rfl⟩

set_option maxRecDepth 100000 in
theorem place_nil {t : Int} {cap : Nat} {A : Option Addr} {w : World} : Calls Try.prog 19 #[.slice A 0 cap, .int .i64 t] w fun e w' => ∃ k B, e = .returned (.tuple #[.int .i64 ((k : Nat) : Int), .bool B]) ∧ PlaceIs t [] k B ∧ w = w' := by
  have HE : Hid (PlaceIs t [] 0 false) := Lib.hid (place_none List.Pairwise.nil (by simp) (fun h => absurd h (by omega)) (fun j h1 h2 => absurd h2 (by simp)))
  go_enter Try.func19, Try.ntmps19
  go_wp2
  go_step3
  go_wp2
  go_step3
  go_wp2
  refine wp_loop_rounds 1 ?_
  rw [rounds_succ]
  go_wp2
  (try rw [Exit.noGoto_ret])
  go_ret2
  exact ⟨0, false, rfl, HE.out, rfl⟩
theorem place_any {t : Int} {n cap : Nat} {A : Option Addr} {l : List (Int × Int)} {w : World} (hr : Row w A cap l) (hn : l.length = n) (hl : n ≤ 64) (hp : l.Pairwise (fun a b => a.1 < b.1)) :
    Calls Try.prog 19 #[.slice A n cap, .int .i64 t] w fun e w' => ∃ k B, e = .returned (.tuple #[.int .i64 ((k : Nat) : Int), .bool B]) ∧ PlaceIs t l k B ∧ w = w' := by
  by_cases h0 : 0 < n
  · obtain ⟨b, off, rfl, hcell⟩ := hr.samps.2 (by omega)
    exact place_in hn hl hp (fun j hj => (hcell j (by omega)).1)
  · obtain rfl : n = 0 := by omega
    obtain rfl : l = [] := List.length_eq_zero_iff.1 hn
    exact place_nil

/-- A struct variable of two cells: the head's. -/
structure HVar (w : World) (g : Nat) (a b : Value) : Prop where
  c0 : w.cell? ⟨g, 0, none⟩ = some a
  c1 : w.cell? ⟨g, 1, none⟩ = some b
  f0 : w.frozen? ⟨g, 0, none⟩ = false
  f1 : w.frozen? ⟨g, 1, none⟩ = false
theorem HVar.new (w : World) (a b : Value) (t : TypeId) : HVar (w.alloc (.cells #[a, b] t)) w.heap.size a b := ⟨by simp, by simp, by simp, by simp⟩
theorem HVar.lt {w : World} {g : Nat} {a b : Value} (h : HVar w g a b) : g < w.heap.size := World.block_lt_of_cell? w _ h.c0
theorem HVar.below {w w' : World} {g : Nat} {a b : Value} (h : HVar w g a b) (hb : Below w.heap.size w w') : HVar w' g a b := by
  have hl := h.lt
  exact ⟨by rw [hb.cell hl]; exact h.c0, by rw [hb.cell hl]; exact h.c1, by rw [hb.frozen hl]; exact h.f0, by rw [hb.frozen hl]; exact h.f1⟩

set_option maxRecDepth 100000 in
set_option maxHeartbeats 1000000 in
theorem own_any {S : Int} {n cap : Nat} {A : Option Addr} {l : List (Int × Int)} {w : World} (hr : Row w A cap l) (hn : l.length = n) (hl : n ≤ 1000) :
    Calls Try.prog 18 #[.agg #[.int .i64 S, .slice A n cap]] w fun e w' => ∃ A' cap', e = .returned (.agg #[.int .i64 S, .slice A' n cap']) ∧ Out w w' w.heap.size A' cap' l := by
  have m1 := fun w' (h : Below w.heap.size w w') => clone_any (hr.below h) hn hl
  have M1 := Lib.hid m1
  have hBB : ∀ o o', Below w.heap.size w ((w.alloc o).alloc o') := fun o o' => past (below_box _ _) (below_box _ _)
  have HBB := Lib.hid hBB
  clear m1 hr hn hBB
  go_enter Try.func18, Try.ntmps18
  go_wp2_with fail
  refine (M1.out _ (HBB.out _ _)).mono ?_
  rintro e w2 ⟨A', cap', rfl, hout⟩
  have hv0 := ((HVar.new w (.int .i64 S) (.slice A n cap) 25).below (below_box _ (.cells #[.int .i64 0, .slice none 0 0] 25))).below hout.below
  have hv1 := (HVar.new (w.alloc (.cells #[.int .i64 S, .slice A n cap] 25)) (.int .i64 0) (.slice none 0 0) 25).below hout.below
  have hO := Lib.hid (hout.start (HBB.out _ _))
  simp only [World.alloc, Array.size_push] at hv1 hO
  obtain ⟨c0, c1, f0, f1⟩ := hv0
  obtain ⟨d0, d1, e0, e1⟩ := hv1
  clear hout M1 HBB
  go_wp2
  refine bodyPost_ret (v := .agg #[.int .i64 S, .slice A' n cap']) ?_ rfl ⟨A', cap', rfl, ?_⟩
  · rw [results_cell_one rfl]
    go_simp
  · exact (((hO.out.set_ _ _ (Nat.le_refl _) (by simp only; omega)).set_ _ _ (by simp only; omega) (by simp only; omega)).set_ _ _ (by simp only; omega) (by simp only; omega)).low (by omega)

set_option maxRecDepth 100000 in
set_option maxHeartbeats 1000000 in
theorem same_any {S : Int} {n cap cap2 : Nat} {A B : Option Addr} {l : List (Int × Int)} {w : World} (hr : Row w A cap l) (hr2 : Row w B cap2 l) (hn : l.length = n) :
    Calls Try.prog 10 #[.agg #[.int .i64 S, .slice A n cap], .agg #[.int .i64 S, .slice B n cap2]] w fun e w' => e = .returned (.bool true) ∧ Below w.heap.size w w' := by
  have m1 := fun w' (h : Below w.heap.size w w') => equal_any hn (hr.below h).samps (hr2.below h).samps (by rw [← hn]; exact hr.le) (by rw [← hn]; exact hr2.le) hr.max hr2.max
  have M1 := Lib.hid m1
  have hBB : ∀ o o', Below w.heap.size w ((w.alloc o).alloc o') := fun o o' => past (below_box _ _) (below_box _ _)
  have HBB := Lib.hid hBB
  clear m1 hr hr2 hn hBB
  go_enter Try.func10, Try.ntmps10
  go_wp2_with fail
  refine (M1.out _ (HBB.out _ _)).mono ?_
  rintro e w2 ⟨rfl, hb2⟩
  have HB2 := Lib.hid (past (HBB.out _ _) hb2)
  clear hb2
  go_wp2
  go_ret
  exact ⟨rfl, HB2.out⟩

set_option maxRecDepth 100000 in
set_option maxHeartbeats 1000000 in
theorem same_len {S : Int} {n m cap cap2 : Nat} {A B : Option Addr} {w : World} (h : n ≠ m) (hn : n ≤ 1000) (hm : m ≤ 1000) :
    Calls Try.prog 10 #[.agg #[.int .i64 S, .slice A n cap], .agg #[.int .i64 S, .slice B m cap2]] w fun e w' => e = .returned (.bool false) ∧ Below w.heap.size w w' := by
  have m1 := fun w' => equal_len A B n m cap cap2 w' h hn hm
  have M1 := Lib.hid m1
  have hBB : ∀ o o', Below w.heap.size w ((w.alloc o).alloc o') := fun o o' => past (below_box _ _) (below_box _ _)
  have HBB := Lib.hid hBB
  clear m1 hBB h
  go_enter Try.func10, Try.ntmps10
  go_wp2_with fail
  refine (M1.out _).mono ?_
  rintro e w2 ⟨rfl, rfl⟩
  go_wp2
  go_ret
  exact ⟨rfl, HBB.out _ _⟩
end Go.Proofs.Ytinplchaimejbaa
