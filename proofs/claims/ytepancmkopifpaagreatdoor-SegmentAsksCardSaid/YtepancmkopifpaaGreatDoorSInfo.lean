/-
  read of segments: what it returns; nothing that was there is written.
  Get, Info of segments: what each returns; nothing that was there is written.
  Same of segments; Info of bytes: what each returns; nothing that was there is written.
  Info of bytes: what it returns; nothing that was there is written.
-/
import Derived.Test.YtepancmkopifpaaGreatDoorSKeep
import Derived.Test.YtepancmkopifpaaGreatDoorZMay
set_option maxRecDepth 100000
namespace Go.Proofs.YtepancmkopifpaaGreatDoor
open Go.RowKit
attribute [local go_sem ↓] Go.wp_at_zero Go.wp_at_succ
set_option linter.unusedVariables false

/-- A row of numbers with one laid anew. -/
def upd (X : Nat → Nat) (j n : Nat) : Nat → Nat := fun i => if i = j then n else X i
/-- So many numbers, laid from place j on, and what stands behind them. -/
def numsF : Nat → Nat → (Nat → Nat) → List Nat → Option ((Nat → Nat) × List Nat)
  | 0, _, X, b => some (X, b)
  | k + 1, j, X, b => match rd b with
    | none => none
    | some (n, b') => numsF k (j + 1) (upd X j n) b'
theorem numsF_four (b : List Nat) : numsF 4 0 (fun _ => 0) b = (nums4 b).map fun x => (upd (upd (upd (upd (fun _ => 0) 0 x.1) 1 x.2.1) 2 x.2.2.1) 3 x.2.2.2.1, x.2.2.2.2) := by
  simp only [numsF, nums4]
  cases rd b with
  | none => rfl
  | some x1 =>
    simp only
    cases rd x1.2 with
    | none => rfl
    | some x2 =>
      simp only
      cases rd x2.2 with
      | none => rfl
      | some x3 =>
        simp only
        cases rd x3.2 with
        | none => rfl
        | some x4 => rfl

/-- What read returns. -/
def ReadPost (w : World) (R : Option Sg) (e : Ending) (w' : World) : Prop :=
  (match R with
    | some s => ∃ A n ca B m cb, e = .returned (.tuple #[.agg #[.int .i64 s.id, .int .i64 s.tier, .int .i64 s.fr, .int .i64 s.tz, .slice A n ca, .slice B m cb], .bool true]) ∧ SegN w' w.heap.size s A n ca B m cb
    | none => ∃ i k f t A n ca B m cb, e = .returned (.tuple #[.agg #[.int .i64 i, .int .i64 k, .int .i64 f, .int .i64 t, .slice A n ca, .slice B m cb], .bool false])) ∧ Below w.heap.size w w'
abbrev Z6 : Obj := .cells #[.int .i64 0, .int .i64 0, .int .i64 0, .int .i64 0, .slice none 0 0, .slice none 0 0] 25
abbrev TK : Obj := .cells #[.int .u8 84, .int .u8 75] 5
theorem read_start (w : World) : (convert 26 26 (.slice (some ⟨w.heap.size + 1, 0, none⟩) 2 2)).run Tryz.prog ((w.alloc Z6).alloc TK) = .ok (.slice (some ⟨w.heap.size + 1, 0, none⟩) 2 2) (((w.alloc Z6).alloc TK).freeze ⟨w.heap.size + 1, 2, none⟩ 1) := by
  have h := conv_at (w := (w.alloc Z6).alloc TK) (g := (w.alloc Z6).heap.size) (fr := (0, 0)) 2 2 (lit_block (w.alloc Z6) TK)
  simpa using h
theorem read_row (w : World) : BRow (((w.alloc Z6).alloc TK).freeze ⟨w.heap.size + 1, 2, none⟩ 1) (some ⟨w.heap.size + 1, 0, none⟩) 2 2 [84, 75] := by
  have h := BRow.lit (w.alloc Z6)
  have e : (w.alloc Z6).heap.size = w.heap.size + 1 := by simp
  rw [e] at h
  exact h.on (B := 0) (On.freeze_ (Nat.zero_le _) (On.refl _ (Nat.zero_le _)))
theorem read_below (w : World) : Below w.heap.size w (((w.alloc Z6).alloc TK).freeze ⟨w.heap.size + 1, 2, none⟩ 1) :=
  (On.freeze_ (by simp) (On.alloc_ (On.alloc_ (On.refl (B := w.heap.size) w (Nat.le_refl _))))).below


/-- Four cells of an array. -/
structure P4 (w : World) (g : Nat) (X : Nat → Nat) : Prop where
  c : ∀ j, j < 4 → w.cell? ⟨g, j, none⟩ = some (.int .u64 (X j : Int))
  z : ∀ j, j < 4 → w.frozen? ⟨g, j, none⟩ = false
theorem P4.lt {w : World} {g : Nat} {X : Nat → Nat} (h : P4 w g X) : g < w.heap.size := World.block_lt_of_cell? w _ (h.c 0 (by omega))
theorem P4.new (w : World) (ty : TypeId) : P4 (w.alloc (.cells #[.int .u64 0, .int .u64 0, .int .u64 0, .int .u64 0] ty)) w.heap.size (fun _ => 0) :=
  ⟨fun j hj => by match j, hj with | 0, _ => simp | 1, _ => simp | 2, _ => simp | 3, _ => simp, fun j hj => by match j, hj with | 0, _ => simp | 1, _ => simp | 2, _ => simp | 3, _ => simp⟩
theorem P4.below {w w' : World} {g : Nat} {X : Nat → Nat} (h : P4 w g X) (hb : Below w.heap.size w w') : P4 w' g X :=
  ⟨fun j hj => by rw [hb.cell h.lt]; exact h.c j hj, fun j hj => by rw [hb.frozen h.lt]; exact h.z j hj⟩
theorem P4.set {w : World} {g : Nat} {X : Nat → Nat} (h : P4 w g X) {j : Nat} (hj : j < 4) (n : Nat) : P4 (w.setCell ⟨g, j, none⟩ (.int .u64 (n : Int))) g (upd X j n) := by
  refine ⟨fun i hi => ?_, fun i hi => ?_⟩
  · unfold upd
    by_cases e : i = j
    · subst e
      rw [if_pos rfl]
      have := h.c i hi
      simp [go_sem, *]
    · rw [if_neg e]
      have := h.c i hi
      have e' : j ≠ i := fun h => e h.symm
      simp [go_sem, *]
  · have := h.z i hi
    simp [go_sem, *]

theorem own_set {w : World} {base size n g i : Nat} {e : TypeId} {v x : Value} {xs : List Value} (h : w.ownsRow base e size v n xs) (hg : g < base) : (w.setCell ⟨g, i, none⟩ x).ownsRow base e size v n xs :=
  h.kept (row := some g) (g_cell w g i x) (by
    cases e : v.ownBlock with
    | none => exact .inl rfl
    | some k => exact .inr (by have := (h.lt k e).1; intro e2; injection e2; omega))
theorem SgV.set_ {w : World} {g g' i' : Nat} {x : Value} {i k f t : Int} {a b : Value} (h : SgV w g i k f t a b) (hn : g ≠ g') : SgV (w.setCell ⟨g', i', none⟩ x) g i k f t a b :=
  h.of (fun j => by simp [go_sem]) (fun j => by simp [go_sem])
theorem fin_below {w w5 : World} {gS j : Nat} {V a0 a1 a2 a3 a4 a5 : Value} (h : Below w.heap.size w w5) (hg : w.heap.size ≤ gS) : Below w.heap.size w (((((((w5.setCell ⟨gS, j, none⟩ V).setCell ⟨w.heap.size, 0, none⟩ a0).setCell ⟨w.heap.size, 1, none⟩ a1).setCell ⟨w.heap.size, 2, none⟩ a2).setCell ⟨w.heap.size, 3, none⟩ a3).setCell ⟨w.heap.size, 4, none⟩ a4).setCell ⟨w.heap.size, 5, none⟩ a5) :=
  (((((((h.setCell hg _).setCell (Nat.le_refl _) _).setCell (Nat.le_refl _) _).setCell (Nat.le_refl _) _).setCell (Nat.le_refl _) _).setCell (Nat.le_refl _) _).setCell (Nat.le_refl _) _)
theorem fin_own {w5 : World} {base size n g0 gS j : Nat} {e : TypeId} {v V a0 a1 a2 a3 a4 a5 : Value} {xs : List Value} (h : w5.ownsRow base e size v n xs) (hg : gS < base) (h0 : g0 < base) :
    (((((((w5.setCell ⟨gS, j, none⟩ V).setCell ⟨g0, 0, none⟩ a0).setCell ⟨g0, 1, none⟩ a1).setCell ⟨g0, 2, none⟩ a2).setCell ⟨g0, 3, none⟩ a3).setCell ⟨g0, 4, none⟩ a4).setCell ⟨g0, 5, none⟩ a5).ownsRow base e size v n xs :=
  own_set (own_set (own_set (own_set (own_set (own_set (own_set h hg) h0) h0) h0) h0) h0) h0
/-- What the loop of read holds. -/
structure RInv (w wr : World) (g : Nat) (c : List Nat) (j p : Nat) (X : Nat → Nat) (R : Option ((Nat → Nat) × List Nat)) : Prop where
  arr : P4 wr g X
  res : SgV wr w.heap.size 0 0 0 0 (.slice none 0 0) (.slice none 0 0)
  below : Below w.heap.size w wr
  ne : w.heap.size < g
  le : p ≤ c.length
  says : R = numsF (4 - j) j X (c.drop p)
  lt : ∀ i, X i < 18446744073709551616

set_option maxHeartbeats 2000000 in
theorem read_any {A : Option Addr} {n ca : Nat} {c : List Nat} {w : World} (h : BRow w A n ca c) (hw : Wid w) :
    Calls Tryz.prog 30 #[.slice A n ca] w (ReadPost w (if c.take 2 = [84, 75] then readW c else none)) := by
  have m1 := prefix_any (h.below (read_below w)) (read_row w)
  have kc := read_start w
  obtain ⟨w1, hw1⟩ : ∃ w1, w1 = ((w.alloc Z6).alloc TK).freeze ⟨w.heap.size + 1, 2, none⟩ 1 := ⟨_, rfl⟩
  rw [← hw1] at m1 kc
  have hB1 : Below w.heap.size w w1 := by rw [hw1]; exact read_below w
  have hs1 : w.heap.size + 1 ≤ w1.heap.size := by
    have h1 := World.block_lt_of_cell? w1 ⟨w.heap.size + 1, 0, none⟩ (u := .int .u8 84) (by rw [hw1, cell_freeze]; simp [TK, Z6])
    simp only at h1
    omega
  have hV1 : SgV w1 w.heap.size 0 0 0 0 (.slice none 0 0) (.slice none 0 0) := by
    have h0 := (SgV.new w 0 0 0 0 (.slice none 0 0) (.slice none 0 0) 25).below (below_box _ TK)
    rw [hw1]
    refine h0.of (fun j => cell_freeze _ _ _ _) (fun j => ?_)
    refine World.frozen?_of_block ?_
    unfold World.freeze
    rw [if_neg (by decide)]
    simp only [Array.getElem?_modify]
    rw [if_neg (by omega)]
  have M1 := Lib.hid m1
  have HB1 := Lib.hid hB1
  have HV1 := Lib.hid hV1
  have HS1 := Lib.hid hs1
  clear m1 hw1 hB1 hV1 hs1
  have HF : Hid (∀ w', Below w.heap.size w w' → ReadPost w none (.returned (.tuple #[.agg #[.int .i64 0, .int .i64 0, .int .i64 0, .int .i64 0, .slice none 0 0, .slice none 0 0], .bool false])) w') := Lib.hid (fun w' hb => ⟨⟨_, _, _, _, _, _, _, _, _, _, rfl⟩, hb⟩)
  by_cases hp : c.take 2 = [84, 75]
  · rw [if_pos hp]
    rw [decide_eq_true hp] at M1
    have hn2 : 2 ≤ c.length := by have := congrArg List.length hp; rw [List.length_take] at this; simp at this; omega
    have HST : Hid (RInv w (w1.alloc (.cells #[.int .u64 0, .int .u64 0, .int .u64 0, .int .u64 0] 94)) w1.heap.size c 0 2 (fun _ => 0) (numsF 4 0 (fun _ => 0) (c.drop 2))) := Lib.hid
      ⟨P4.new _ _, HV1.out.below (below_box _ _), past HB1.out (below_box _ _), HS1.out, hn2, rfl, fun _ => by omega⟩
    have HR := Lib.hid h
    have HW := Lib.hid hw
    have HRW : Hid (readW c = match numsF 4 0 (fun _ => 0) (c.drop 2) with | none => none | some (X, r) => if X 1 = 0 then (getB r).map fun l => ⟨ws (X 0), 0, ws (X 2), ws ((X 2 + X 3) % 18446744073709551616), l, []⟩ else if X 1 ≤ 3 then (getA (wid (X 1 : Nat)) r).map fun l => ⟨ws (X 0), (X 1 : Nat), ws (X 2), ws ((X 2 + X 3) % 18446744073709551616), [], l⟩ else none) := Lib.hid (by
      rw [numsF_four]
      unfold readW
      cases nums4 (c.drop 2) with
      | none => rfl
      | some x => rfl)
    generalize numsF 4 0 (fun _ => 0) (c.drop 2) = R at *
    clear h hw hp hn2
    go_enter Tryz.func30, Tryz.ntmps30
    go_wp2_with fail
    refine M1.out.mono ?_
    rintro e w2 ⟨rfl, rfl⟩
    go_wp2
    go_loopw [18, 4] (fun s18 s4 wr => ∃ (j p : Nat) (X : Nat → Nat), j ≤ 4 ∧ s18 = .int .i64 (j : Int) ∧ s4 = .int .i64 (p : Int) ∧ Hid (RInv w wr w1.heap.size c j p X R)) (fun s18 _ _ => 4 - (intOf s18).toNat)
    case atStart => exact ⟨0, 2, _, by omega, rfl, rfl, HST⟩
    case round =>
      obtain ⟨j, p, X, hj, rfl, rfl, HI⟩ := hrel
      by_cases hlt : j < 4
      · have i1 : (j : Int) < 4 := by omega
        cases e1 : dec 0 0 (c.drop p) with
        | none =>
          have m2 := get_none (w := wr) HR.out.len (HR.out.below HI.out.below).bytes HR.out.le HR.out.max (by rw [← HR.out.len]; exact HI.out.le) e1
          have e0 : R = none := by
            rw [HI.out.says, show 4 - j = (3 - j) + 1 by omega]
            unfold numsF rd
            rw [e1]
            rfl
          have HE : Hid (readW c = none) := Lib.hid (by rw [HRW.out, e0])
          have M2 := Lib.hid m2
          clear m2 e1 e0
          go_wp2_with fail
          refine M2.out.mono ?_
          rintro e w3 ⟨rfl, rfl⟩
          obtain ⟨c0, c1, c2, c3, c4, c5, z0, z1, z2, z3, z4, z5⟩ := HI.out.res
          go_wp2
          (try simp only [Exit.inBlock, Exit.then])
          refine bodyPost_ret (v := .tuple #[.agg #[.int .i64 0, .int .i64 0, .int .i64 0, .int .i64 0, .slice none 0 0, .slice none 0 0], .bool false]) ?_ rfl (by rw [HE.out]; refine HF.out _ ?_; exact ((((((HI.out.below.setCell (Nat.le_refl _) _).setCell (Nat.le_refl _) _).setCell (Nat.le_refl _) _).setCell (Nat.le_refl _) _).setCell (Nat.le_refl _) _).setCell (Nat.le_refl _) _))
          rw [results_cell_tmp rfl]
          go_simp
        | some x =>
          obtain ⟨v, k⟩ := x
          have m2 := get_some (w := wr) HR.out.len (HR.out.below HI.out.below).bytes HR.out.le HR.out.max (by rw [← HR.out.len]; exact HI.out.le) e1
          have hq := numR_le (bad := false) HR.out.bytes.1 HI.out.le
          unfold numR at hq
          rw [e1] at hq
          simp only at hq
          have HN : Hid (RInv w (wr.setCell ⟨w1.heap.size, j, none⟩ (.int .u64 (v : Int))) w1.heap.size c (j + 1) (p + k) (upd X j v) R) := Lib.hid (by
            refine ⟨HI.out.arr.set hlt v, HI.out.res.set_ (Nat.ne_of_lt HI.out.ne), HI.out.below.setCell (Nat.le_of_lt HI.out.ne) _, HI.out.ne, hq.1, ?_, fun i => ?_⟩
            · rw [HI.out.says, show 4 - j = (3 - j) + 1 by omega, show 4 - (j + 1) = 3 - j by omega, numsF]
              unfold rd
              rw [e1]
              simp only [Option.map_some, List.drop_drop]
            · unfold upd
              split
              · exact hq.2
              · exact HI.out.lt i)
          have M2 := Lib.hid m2
          have q0 := HI.out.arr.c j hlt
          have q1 := HI.out.arr.z j hlt
          have i2 : (0 : Int) ≤ (j : Int) := by omega
          clear m2 e1 hq
          go_wp2_with fail
          refine M2.out.mono ?_
          rintro e w3 ⟨rfl, rfl⟩
          go_wp2
          go_roundw
          case rel => exact ⟨j + 1, p + k, _, by omega, by go_num, rfl, HN⟩
          case measure => simp [intOf]; omega
      · obtain rfl : j = 4 := by omega
        have HX : Hid (R = some (X, c.drop p)) := Lib.hid HI.out.says
        obtain ⟨x0, hx0⟩ : ∃ x, x = X 0 := ⟨_, rfl⟩
        obtain ⟨x1, hx1⟩ : ∃ x, x = X 1 := ⟨_, rfl⟩
        obtain ⟨x2, hx2⟩ : ∃ x, x = X 2 := ⟨_, rfl⟩
        obtain ⟨x3, hx3⟩ : ∃ x, x = X 3 := ⟨_, rfl⟩
        have l0 := HI.out.lt 0
        have l1 := HI.out.lt 1
        have l2 := HI.out.lt 2
        have l3 := HI.out.lt 3
        have q0 := HI.out.arr.c 0 (by omega)
        have q1 := HI.out.arr.c 1 (by omega)
        have q2 := HI.out.arr.c 2 (by omega)
        have q3 := HI.out.arr.c 3 (by omega)
        have HE := HRW.out
        rw [HX.out] at HE
        simp only at HE
        rw [← hx0] at q0 l0 HE
        rw [← hx1] at q1 l1 HE
        rw [← hx2] at q2 l2 HE
        rw [← hx3] at q3 l3 HE
        have k0 : IntKind.i64.wrap (x0 : Int) = ws x0 := ws_wrap l0
        have k1 : IntKind.i64.wrap (x1 : Int) = ws x1 := ws_wrap l1
        have k2 : IntKind.i64.wrap (x2 : Int) = ws x2 := ws_wrap l2
        have k3 : IntKind.u64.wrap ((x2 : Int) + (x3 : Int)) = (((x2 + x3) % 18446744073709551616 : Nat) : Int) := by rw [IntKind.wrap_u64]; omega
        have k4 : IntKind.i64.wrap (((x2 + x3) % 18446744073709551616 : Nat) : Int) = ws ((x2 + x3) % 18446744073709551616) := ws_wrap (Nat.mod_lt _ (by omega))
        have g0 := ws_in l0
        have g1 := ws_in l1
        have g2 := ws_in l2
        have g3 := ws_in (Nat.mod_lt (x2 + x3) (show 18446744073709551616 > 0 by omega))
        have HW1 : Hid (ws x1 = 0 ↔ x1 = 0) := Lib.hid (by unfold ws; split <;> omega)
        have HW3 : Hid (coarse (ws x1) → ws x1 = (x1 : Int) ∧ 1 ≤ x1 ∧ x1 ≤ 3) := Lib.hid (by unfold ws coarse; split <;> omega)
        have HW4 : Hid (¬ coarse (ws x1) → ¬ x1 = 0 → ¬ x1 ≤ 3) := Lib.hid (by unfold ws coarse; split <;> omega)
        generalize hT : (x2 + x3) % 18446744073709551616 = S3 at *
        generalize hz0 : ws x0 = W0 at *
        generalize hz1 : ws x1 = W1 at *
        generalize hz2 : ws x2 = W2 at *
        generalize hz3 : ws S3 = W3 at *
        have HE2 := Lib.hid HE
        clear hx0 hx1 hx2 hx3 l0 l1 l2 l3 HE hT hz0 hz1 hz2 hz3 HRW
        go_upto_region 15 with fail
        obtain ⟨wq, hwq⟩ : ∃ wq, wq = wr.alloc (.cells #[.int .i64 W0, .int .i64 W1, .int .i64 W2, .int .i64 W3, .slice none 0 0, .slice none 0 0] 25) := ⟨_, rfl⟩
        have hsz : wq.heap.size = wr.heap.size + 1 := by rw [hwq]; simp
        have HSZ : Hid (w.heap.size < wr.heap.size) := Lib.hid (Nat.lt_trans HI.out.ne HI.out.arr.lt)
        have hVS : SgV wq wr.heap.size W0 W1 W2 W3 (.slice none 0 0) (.slice none 0 0) := by rw [hwq]; exact SgV.new wr W0 W1 W2 W3 _ _ 25
        have hVR : SgV wq w.heap.size 0 0 0 0 (.slice none 0 0) (.slice none 0 0) := by rw [hwq]; exact HI.out.res.below (below_box _ _)
        have hBQ : Below w.heap.size w wq := by rw [hwq]; exact past HI.out.below (below_box _ _)
        rw [← hwq]
        have HSQ := Lib.hid hsz
        have HVS := Lib.hid hVS
        have HVR := Lib.hid hVR
        have HBQ := Lib.hid hBQ
        obtain ⟨A2, hs2, hr2⟩ := sliceB_lo (HR.out.below hBQ) (show p ≤ n by have := HI.out.le; have := HR.out.len; omega)
        generalize hgS : wr.heap.size = gS at *
        have hpos : (0 : Int) ≤ (p : Int) := by omega
        have HWQ : Hid (Wid wq) := Lib.hid (HW.out.below hBQ)
        obtain ⟨d0, d1, d2, d3, d4, d5, y0, y1, y2, y3, y4, y5⟩ := hVS
        clear hwq hsz hVR hBQ hgS HI q0 q1 q2 q3 k0 k1 k2 k3 k4 HX
        by_cases hW : W1 = 0
        · have hW' : (W1 == 0) = true := by simp [hW]
          have m5 := kget_any A2 (n - p) (ca - p) (c.drop p) wq hr2.len hr2.bytes hr2.le hr2.max
          have HE3 : Hid (readW c = (getB (c.drop p)).map fun l => ⟨W0, W1, W2, W3, l, []⟩) := Lib.hid (by rw [HE2.out, if_pos (HW1.out.1 hW), hW])
          have M5 := Lib.hid m5
          clear m5 hr2 hW HE2 HW1 HW3 HW4
          go_wp2_with fail
          refine M5.out.mono ?_
          rintro e w5 ⟨he, hb5⟩
          have HB5 := Lib.hid (past HBQ.out hb5)
          obtain ⟨e0, e1, e2, e3, e4, e5, x0, x1, x2, x3, x4, x5⟩ := HVS.out.below hb5
          obtain ⟨r0, r1, r2, r3, r4, r5, s0, s1, s2, s3, s4, s5⟩ := HVR.out.below hb5
          clear hb5 d0 d1 d2 d3 d4 d5 y0 y1 y2 y3 y4 y5
          have hneq : w.heap.size ≠ gS := Nat.ne_of_lt HSZ.out
          have hneq' : gS ≠ w.heap.size := fun h => hneq h.symm
          cases hg : getB (c.drop p) with
          | none =>
            rw [hg] at he HE3
            subst he
            go_wp2
            (try simp only [Exit.inBlock, Exit.then])
            refine bodyPost_ret (v := .tuple #[.agg #[.int .i64 W0, .int .i64 W1, .int .i64 W2, .int .i64 W3, .slice none 0 0, .slice none 0 0], .bool false]) ?_ rfl ?_
            · rw [results_cell_tmp rfl]
              go_simp
            · rw [HE3.out]
              exact ⟨⟨_, _, _, _, _, _, _, _, _, _, rfl⟩, fin_below HB5.out (Nat.le_of_lt HSZ.out)⟩
          | some l =>
            rw [hg] at he HE3
            obtain ⟨V, rfl, hown, hin⟩ := he
            obtain ⟨A3, c3, rfl, _, _, _⟩ := row_of_own hown hin
            have HO := Lib.hid hown
            clear hown
            go_wp2
            (try simp only [Exit.inBlock, Exit.then])
            refine bodyPost_ret (v := .tuple #[.agg #[.int .i64 W0, .int .i64 W1, .int .i64 W2, .int .i64 W3, .slice A3 l.length c3, .slice none 0 0], .bool true]) ?_ rfl ?_
            · rw [results_cell_tmp rfl]
              go_simp
            · rw [HE3.out]
              refine ⟨⟨_, _, _, _, _, _, rfl, ?_⟩, fin_below HB5.out (Nat.le_of_lt HSZ.out)⟩
              have ho := fin_own (w5 := w5) (g0 := w.heap.size) (gS := gS) (j := 4) (V := .slice A3 l.length c3) (a0 := .int .i64 W0) (a1 := .int .i64 W1) (a2 := .int .i64 W2) (a3 := .int .i64 W3) (a4 := .slice A3 l.length c3) (a5 := .slice none 0 0) HO.out (by have := HSQ.out; omega) (by have := HSQ.out; have := HSZ.out; omega)
              obtain ⟨A4, c4, e, hrow, hl4, hf4⟩ := row_of_own ho hin
              injection e with e1 e2 e3
              subst e1 e3
              exact ⟨⟨hrow, hl4, rowOf_nil _, ⟨g0, g1, g2, g3, hin, fun a ha => by simp at ha⟩⟩, fun a e => by have := hf4 a e; have := HSQ.out; have := HSZ.out; omega, fun a e => by cases e⟩
        · have hW' : (W1 == 0) = false := by simp [hW]
          have hneq : w.heap.size ≠ gS := Nat.ne_of_lt HSZ.out
          have hneq' : gS ≠ w.heap.size := fun h => hneq h.symm
          by_cases hk : coarse W1
          · have m5 := fun u (hu : Below wq.heap.size wq u) => kgeta_in A2 (n - p) (ca - p) (c.drop p) W1 u hr2.len (hr2.below hu).bytes hr2.le hr2.max hk (HWQ.out.below hu)
            obtain ⟨f1, f2, f3⟩ := HW3.out hk
            have HE3 : Hid (readW c = (getA (wid W1) (c.drop p)).map fun l => ⟨W0, W1, W2, W3, [], l⟩) := Lib.hid (by rw [HE2.out, if_neg (by omega), if_pos f3, f1])
            have M5 := Lib.hid m5
            clear m5 hr2 hW HE2 HW1 HW3 HW4 f1 f2 f3 hk
            have HBD : Hid (∀ m, Below wq.heap.size wq (wq.drewN m)) := Lib.hid (fun m => belowN _ _)
            cases hg : getA (wid W1) (c.drop p) with
            | none =>
              rw [hg] at M5 HE3
              go_upto_region 17 with fail
              go_region_with (first
                | (go_at_call 63; refine (M5.out _ (HBD.out _)).mono ?_; rintro e w5 ⟨rfl, hb5⟩; obtain ⟨e0, e1, e2, e3, e4, e5, x0, x1, x2, x3, x4, x5⟩ := HVS.out.below (past (HBD.out 1) hb5); obtain ⟨r0, r1, r2, r3, r4, r5, s0, s1, s2, s3, s4, s5⟩ := HVR.out.below (past (HBD.out 1) hb5)))
              all_goals
                have HB5 := Lib.hid (past HBQ.out (past (HBD.out 1) hb5))
                clear hb5 d0 d1 d2 d3 d4 d5 y0 y1 y2 y3 y4 y5
                go_wp2
                (try simp only [Exit.inBlock, Exit.then])
                refine bodyPost_ret (v := .tuple #[.agg #[.int .i64 W0, .int .i64 W1, .int .i64 W2, .int .i64 W3, .slice none 0 0, .slice none 0 0], .bool false]) ?_ rfl ?_
                · rw [results_cell_tmp rfl]
                  go_simp
                · rw [HE3.out]
                  exact ⟨⟨_, _, _, _, _, _, _, _, _, _, rfl⟩, fin_below HB5.out (Nat.le_of_lt HSZ.out)⟩
            | some l =>
              rw [hg] at M5 HE3
              go_upto_region 17 with fail
              go_region_with (first
                | (go_at_call 63; refine (M5.out _ (HBD.out _)).mono ?_; rintro e w5 ⟨⟨V, rfl, hown, hin⟩, hb5⟩; obtain ⟨A3, c3, rfl, _⟩ := rowOf_own hown hin; obtain ⟨e0, e1, e2, e3, e4, e5, x0, x1, x2, x3, x4, x5⟩ := HVS.out.below (past (HBD.out 1) hb5); obtain ⟨r0, r1, r2, r3, r4, r5, s0, s1, s2, s3, s4, s5⟩ := HVR.out.below (past (HBD.out 1) hb5)))
              all_goals
                have HB5 := Lib.hid (past HBQ.out (past (HBD.out 1) hb5))
                have HO := Lib.hid hown
                clear hown hb5 d0 d1 d2 d3 d4 d5 y0 y1 y2 y3 y4 y5
                go_wp2
                (try simp only [Exit.inBlock, Exit.then])
                refine bodyPost_ret (v := .tuple #[.agg #[.int .i64 W0, .int .i64 W1, .int .i64 W2, .int .i64 W3, .slice none 0 0, .slice A3 l.length c3], .bool true]) ?_ rfl ?_
                · rw [results_cell_tmp rfl]
                  go_simp
                · rw [HE3.out]
                  refine ⟨⟨_, _, _, _, _, _, rfl, ?_⟩, fin_below HB5.out (Nat.le_of_lt HSZ.out)⟩
                  have ho := fin_own (w5 := w5) (g0 := w.heap.size) (gS := gS) (j := 5) (V := .slice A3 l.length c3) (a0 := .int .i64 W0) (a1 := .int .i64 W1) (a2 := .int .i64 W2) (a3 := .int .i64 W3) (a4 := .slice none 0 0) (a5 := .slice A3 l.length c3) HO.out (by have := HSQ.out; show gS < wq.heap.size; omega) (by have := HSQ.out; have := HSZ.out; show w.heap.size < wq.heap.size; omega)
                  obtain ⟨A4, c4, e, hrow, hf4⟩ := rowOf_new ho hin
                  injection e with e1 e2 e3
                  subst e1 e3
                  exact ⟨⟨Row.none _, rfl, hrow, ⟨g0, g1, g2, g3, fun s hs => by simp at hs, hin⟩⟩, fun a e => (by cases e), fun a e => by have h7 : wq.heap.size ≤ a.block := hf4 a e; have := HSQ.out; have := HSZ.out; omega⟩
          · have m5 := fun u (hu : Below wq.heap.size wq u) => kgeta_not (.slice A2 (n - p) (ca - p)) W1 u g1 hk
            have HE3 : Hid (readW c = none) := Lib.hid (by
              have h0 : ¬ x1 = 0 := fun h => hW (HW1.out.2 h)
              rw [HE2.out, if_neg h0, if_neg (HW4.out hk h0)])
            have M5 := Lib.hid m5
            have HBD : Hid (∀ m, Below wq.heap.size wq (wq.drewN m)) := Lib.hid (fun m => belowN _ _)
            clear m5 hr2 hW HE2 HW1 HW3 HW4 hk
            go_upto_region 17 with fail
            go_region_with (first
              | (go_at_call 63; refine (M5.out _ (HBD.out _)).mono ?_; rintro e w5 ⟨rfl, hb5⟩; obtain ⟨e0, e1, e2, e3, e4, e5, x0, x1, x2, x3, x4, x5⟩ := HVS.out.below (past (HBD.out 1) hb5); obtain ⟨r0, r1, r2, r3, r4, r5, s0, s1, s2, s3, s4, s5⟩ := HVR.out.below (past (HBD.out 1) hb5)))
            all_goals
              have HB5 := Lib.hid (past HBQ.out (past (HBD.out 1) hb5))
              clear hb5 d0 d1 d2 d3 d4 d5 y0 y1 y2 y3 y4 y5
              go_wp2
              (try simp only [Exit.inBlock, Exit.then])
              refine bodyPost_ret (v := .tuple #[.agg #[.int .i64 W0, .int .i64 W1, .int .i64 W2, .int .i64 W3, .slice none 0 0, .slice none 0 0], .bool false]) ?_ rfl ?_
              · rw [results_cell_tmp rfl]
                go_simp
              · rw [HE3.out]
                exact ⟨⟨_, _, _, _, _, _, _, _, _, _, rfl⟩, fin_below HB5.out (Nat.le_of_lt HSZ.out)⟩
  · rw [if_neg hp]
    rw [decide_eq_false hp] at M1
    clear h hp hw
    go_enter Tryz.func30, Tryz.ntmps30
    go_wp2_with fail
    refine M1.out.mono ?_
    rintro e w2 ⟨rfl, rfl⟩
    obtain ⟨c0, c1, c2, c3, c4, c5, z0, z1, z2, z3, z4, z5⟩ := HV1.out
    go_wp2
    (try simp only [Exit.inBlock, Exit.then])
    refine bodyPost_ret (v := .tuple #[.agg #[.int .i64 0, .int .i64 0, .int .i64 0, .int .i64 0, .slice none 0 0, .slice none 0 0], .bool false]) ?_ rfl (HF.out _ ?_)
    · rw [results_cell_tmp rfl]
      go_simp
    · exact ((((((HB1.out.setCell (Nat.le_refl _) _).setCell (Nat.le_refl _) _).setCell (Nat.le_refl _) _).setCell (Nat.le_refl _) _).setCell (Nat.le_refl _) _).setCell (Nat.le_refl _) _)
end Go.Proofs.YtepancmkopifpaaGreatDoor
set_option maxRecDepth 100000
namespace Go.Proofs.YtepancmkopifpaaGreatDoor
open Go.RowKit
attribute [local go_sem ↓] Go.wp_at_zero Go.wp_at_succ
set_option linter.unusedVariables false

/-- What Get returns. -/
def GetG (w : World) (R : Option Sg) (e : Ending) (w' : World) : Prop :=
  (match R with
    | some s => ∃ A n ca B m cb, e = .returned (.tuple #[.agg #[.int .i64 s.id, .int .i64 s.tier, .int .i64 s.fr, .int .i64 s.tz, .slice A n ca, .slice B m cb], .int .i64 0]) ∧ SegN w' w.heap.size s A n ca B m cb
    | none => e = .returned (.tuple #[.agg #[.int .i64 0, .int .i64 0, .int .i64 0, .int .i64 0, .slice none 0 0, .slice none 0 0], .int .i64 2])) ∧ Below w.heap.size w w'
def mayO (o : Option Sg) : Option Sg := match o with | none => none | some s => if s.may then some s else none
theorem mayC {c : List Nat} (hb : ∀ x ∈ c, x < 256) : readC c = mayO (readW c) := by rw [readW_C hb]; rfl
theorem readS_cases {b : List Nat} (hb : ∀ c ∈ b, c < 256) : readS b = if b.length ≤ 4000 ∧ summed b ∧ (b.take (b.length - 4)).take 2 = [84, 75] then mayO (readW (b.take (b.length - 4))) else none := by
  have hC := mayC (c := b.take (b.length - 4)) (fun x hx => hb x (List.mem_of_mem_take hx))
  have hs : summed b ↔ (4 ≤ b.length ∧ b.drop (b.length - 4) = four (more 1 (b.take (b.length - 4)))) := Iff.rfl
  rw [← hC]
  unfold readS
  by_cases hq : b.length ≤ 4000 ∧ summed b ∧ (b.take (b.length - 4)).take 2 = [84, 75]
  · obtain ⟨q1, q2, q3⟩ := id hq
    have h6 : 6 ≤ b.length := by
      have := congrArg List.length q3
      rw [List.length_take, List.length_take] at this
      simp at this
      omega
    have e2 : (b.take (b.length - 4)).take 2 = b.take 2 := by rw [List.take_take, Nat.min_eq_left (by omega)]
    rw [e2] at q3
    rw [if_pos hq, if_neg]
    rintro (h | h | h | h)
    · omega
    · omega
    · exact h q3
    · exact h (hs.1 q2).2.symm
  · rw [if_neg hq, if_pos]
    by_cases h6 : b.length < 6
    · exact Or.inl h6
    have e2 : (b.take (b.length - 4)).take 2 = b.take 2 := by rw [List.take_take, Nat.min_eq_left (by omega)]
    rw [e2] at hq
    by_cases a1 : 4000 < b.length
    · exact Or.inr (Or.inl a1)
    · by_cases a2 : b.take 2 = [84, 75]
      · exact Or.inr (Or.inr (Or.inr (fun h => hq ⟨by omega, hs.2 ⟨by omega, h.symm⟩, a2⟩)))
      · exact Or.inr (Or.inr (Or.inl a2))

set_option maxHeartbeats 600000 in
theorem getG_any {A : Option Addr} {n ca : Nat} {b : List Nat} {w : World} (h : BRow w A n ca b) (hw : Wid w) :
    Calls Tryz.prog 8 #[.slice A n ca] w (GetG w (readS b)) := by
  have hlen := h.len
  have hmax := h.max
  have hle := h.le
  unfold maxLen at hmax
  have HF : Hid (∀ w', readS b = none → Below w.heap.size w w' → GetG w (readS b) (.returned (.tuple #[.agg #[.int .i64 0, .int .i64 0, .int .i64 0, .int .i64 0, .slice none 0 0, .slice none 0 0], .int .i64 2])) w') := Lib.hid (fun w' e hb => by rw [e]; exact ⟨rfl, hb⟩)
  have HR := Lib.hid (readS_cases h.bytes.1)
  have m1 := fun u (hu : Below w.heap.size w u) => summed_any (h.below hu)
  have M1 := Lib.hid m1
  have HH := Lib.hid h
  have HW := Lib.hid hw
  have HL := Lib.hid hlen
  have hV0 := SgV.new w 0 0 0 0 (.slice none 0 0) (.slice none 0 0) 25
  have HV0 := Lib.hid hV0
  clear h hw m1 hlen
  by_cases c1 : (n : Int) > 4000
  · have HN : Hid (readS b = none) := Lib.hid (by rw [HR.out, if_neg]; rintro ⟨h, _⟩; have := HL.out; omega)
    obtain ⟨d0, d1, d2, d3, d4, d5, y0, y1, y2, y3, y4, y5⟩ := hV0
    clear hmax hle
    go_enter Tryz.func8, Tryz.ntmps8
    go_wp2
    (try simp only [Exit.inBlock, Exit.then])
    refine bodyPost_ret (v := .tuple #[.agg #[.int .i64 0, .int .i64 0, .int .i64 0, .int .i64 0, .slice none 0 0, .slice none 0 0], .int .i64 2]) ?_ rfl (HF.out _ HN.out ?_)
    · rw [results_cell_tmp rfl]
      go_simp
    · first | with_reducible exact below_box _ _ | with_reducible exact below_set6 (below_box _ _) (Nat.le_refl _) | trace_state
  by_cases c2 : summed b
  · have e2 : decide (summed b) = true := decide_eq_true c2
    rw [e2] at M1
    have c4 : 4 ≤ n := by have := c2.1; have := HL.out; omega
    have hs1 := fun w => sliceB_hi (A := A) (n := n) (k := n - 4) (cap := ca) (by omega) w
    obtain ⟨K, hK⟩ : ∃ K, K = n - 4 := ⟨_, rfl⟩
    rw [← hK] at hs1
    have i0 : IntKind.i64.wrap ((n : Int) - 4) = (K : Int) := by rw [IntKind.wrap_i64]; omega
    have HRD := Lib.hid (fun u (hu : Below w.heap.size w u) => read_any ((HH.out.below hu).take (show K ≤ n by omega)) (HW.out.below hu))
    have HR2 : Hid (readS b = mayO (if (b.take K).take 2 = [84, 75] then readW (b.take K) else none)) := Lib.hid (by
      have e : b.length - 4 = K := by have := HL.out; omega
      rw [HR.out, e]
      by_cases hq : (b.take K).take 2 = [84, 75]
      · rw [if_pos ⟨by have := HL.out; omega, c2, hq⟩, if_pos hq]
      · rw [if_neg (fun h => hq h.2.2), if_neg hq]; rfl)
    generalize (if (b.take K).take 2 = [84, 75] then readW (b.take K) else none) = R at *
    clear HR hK c4 hmax hle c2 e2 hV0 HL
    go_enter Tryz.func8, Tryz.ntmps8
    go_wp2_with fail
    refine (M1.out _ (below_box _ _)).mono ?_
    rintro e w2 ⟨rfl, hb2⟩
    have HV2 := Lib.hid (HV0.out.below hb2)
    have HB2 := Lib.hid (past (below_box _ _) hb2)
    have HS2 : Hid (w.heap.size < w2.heap.size) := Lib.hid (by have := hb2.size; simp at this; omega)
    clear hb2
    go_wp2_with fail
    refine (HRD.out _ HB2.out).mono ?_
    rintro e w3 ⟨he, hb3⟩
    have HV3 := Lib.hid (HV2.out.below hb3)
    have HB3 := Lib.hid (past HB2.out hb3)
    have HS3 : Hid (w.heap.size < w3.heap.size) := Lib.hid (Nat.lt_of_lt_of_le HS2.out hb3.size)
    clear hb3
    cases R with
    | none =>
      obtain ⟨i, k, f, t, A3, n3, ca3, B3, m3, cb3, rfl⟩ := he
      have HN : Hid (readS b = none) := HR2
      have hV3 := HV3.out.below (below_box w3 (.cells #[.int .i64 i, .int .i64 k, .int .i64 f, .int .i64 t, .slice A3 n3 ca3, .slice B3 m3 cb3] 25))
      obtain ⟨d0, d1, d2, d3, d4, d5, y0, y1, y2, y3, y4, y5⟩ := hV3
      go_wp2
      (try simp only [Exit.inBlock, Exit.then])
      refine bodyPost_ret (v := .tuple #[.agg #[.int .i64 0, .int .i64 0, .int .i64 0, .int .i64 0, .slice none 0 0, .slice none 0 0], .int .i64 2]) ?_ rfl (HF.out _ HN.out ?_)
      · rw [results_cell_tmp rfl]
        go_simp
      · exact below_set6 (past HB3.out (below_box _ _)) (Nat.le_refl _)
    | some s =>
      obtain ⟨A3, n3, ca3, B3, m3, cb3, rfl, hsg⟩ := he
      have m4 := fun u (hu : Below w3.heap.size w3 u) => mayG_any (hsg.at_.below hu) (HW.out.below (past HB3.out hu))
      obtain ⟨i, k, f, t, sm, ag⟩ := s
      simp only at *
      have HSG := Lib.hid hsg
      clear hsg
      by_cases hm : Sg.may ⟨i, k, f, t, sm, ag⟩
      · rw [decide_eq_true hm] at m4
        have HN : Hid (readS b = some ⟨i, k, f, t, sm, ag⟩) := Lib.hid (by rw [HR2.out]; unfold mayO; simp only; rw [if_pos hm])
        have M4 := Lib.hid m4
        clear m4 hm HR2
        go_wp2_with fail
        refine (M4.out _ (below_box _ _)).mono ?_
        rintro e w5 ⟨rfl, hb5⟩
        have hV4 : SgV (w3.alloc (.cells #[.int .i64 i, .int .i64 k, .int .i64 f, .int .i64 t, .slice A3 n3 ca3, .slice B3 m3 cb3] 25)) w3.heap.size i k f t (.slice A3 n3 ca3) (.slice B3 m3 cb3) := SgV.new _ _ _ _ _ _ _ _
        obtain ⟨d0, d1, d2, d3, d4, d5, y0, y1, y2, y3, y4, y5⟩ := hV4.below hb5
        obtain ⟨r0, r1, r2, r3, r4, r5, s0, s1, s2, s3, s4, s5⟩ := (HV3.out.below (below_box _ _)).below hb5
        have HSG5 := Lib.hid ((HSG.out.below (below_box _ _)).below hb5)
        have HB5 := Lib.hid (past HB3.out (past (below_box _ _) hb5))
        have hne : w.heap.size ≠ w3.heap.size := Nat.ne_of_lt HS3.out
        have hne' : w3.heap.size ≠ w.heap.size := fun h => hne h.symm
        clear hb5 hV4
        go_wp2
        (try simp only [Exit.inBlock, Exit.then])
        refine bodyPost_ret (v := .tuple #[.agg #[.int .i64 i, .int .i64 k, .int .i64 f, .int .i64 t, .slice A3 n3 ca3, .slice B3 m3 cb3], .int .i64 0]) ?_ rfl ?_
        · rw [results_cell_tmp rfl]
          go_simp
        · rw [HN.out]
          exact ⟨⟨_, _, _, _, _, _, rfl, (HSG5.out.set6 HS2.out).low (Nat.le_of_lt HS2.out)⟩, below_set6 HB5.out (Nat.le_refl _)⟩
      · rw [decide_eq_false hm] at m4
        have HN : Hid (readS b = none) := Lib.hid (by rw [HR2.out]; unfold mayO; simp only; rw [if_neg hm])
        have M4 := Lib.hid m4
        clear m4 hm HR2
        go_wp2_with fail
        refine (M4.out _ (below_box _ _)).mono ?_
        rintro e w5 ⟨rfl, hb5⟩
        obtain ⟨r0, r1, r2, r3, r4, r5, s0, s1, s2, s3, s4, s5⟩ := (HV3.out.below (below_box _ _)).below hb5
        have HB5 := Lib.hid (past HB3.out (past (below_box _ _) hb5))
        clear hb5
        go_wp2
        (try simp only [Exit.inBlock, Exit.then])
        refine bodyPost_ret (v := .tuple #[.agg #[.int .i64 0, .int .i64 0, .int .i64 0, .int .i64 0, .slice none 0 0, .slice none 0 0], .int .i64 2]) ?_ rfl (HF.out _ HN.out ?_)
        · rw [results_cell_tmp rfl]
          go_simp
        · exact below_set6 HB5.out (Nat.le_refl _)
  · have e2 : decide (summed b) = false := decide_eq_false c2
    rw [e2] at M1
    have HN : Hid (readS b = none) := Lib.hid (by rw [HR.out, if_neg]; rintro ⟨_, h, _⟩; exact c2 h)
    clear HR hmax hle c2 e2 hV0
    go_enter Tryz.func8, Tryz.ntmps8
    go_wp2_with fail
    refine (M1.out _ (below_box _ _)).mono ?_
    rintro e w2 ⟨rfl, hb2⟩
    obtain ⟨d0, d1, d2, d3, d4, d5, y0, y1, y2, y3, y4, y5⟩ := HV0.out.below hb2
    have HB2 := Lib.hid (past (below_box _ _) hb2)
    clear hb2
    go_wp2
    (try simp only [Exit.inBlock, Exit.then])
    refine bodyPost_ret (v := .tuple #[.agg #[.int .i64 0, .int .i64 0, .int .i64 0, .int .i64 0, .slice none 0 0, .slice none 0 0], .int .i64 2]) ?_ rfl (HF.out _ HN.out ?_)
    · rw [results_cell_tmp rfl]
      go_simp
    · exact below_set6 HB2.out (Nat.le_refl _)
end Go.Proofs.YtepancmkopifpaaGreatDoor
set_option maxRecDepth 100000
namespace Go.Proofs.YtepancmkopifpaaGreatDoor
open Go.RowKit
attribute [local go_sem ↓] Go.wp_at_zero Go.wp_at_succ
set_option linter.unusedVariables false

set_option maxRecDepth 100000 in
set_option maxHeartbeats 1000000 in
theorem equalA_in (b off b2 off2 n ca cb : Nat) (l : List Ag) (w : World) (hc : n ≤ ca) (hc2 : n ≤ cb) (hm : ca ≤ maxLen) (hm2 : cb ≤ maxLen) (h0 : 0 < n)
    (h1 : ∀ w', Below w.heap.size w w' → ∀ j, j < n → HoldsAt w' b (off + j * 7) (agAt l j)) (h2 : ∀ w', Below w.heap.size w w' → ∀ j, j < n → HoldsAt w' b2 (off2 + j * 7) (agAt l j)) :
    Calls Tryz.prog 51 #[.slice (some ⟨b, off, none⟩) n ca, .slice (some ⟨b2, off2, none⟩) n cb] w fun e w' => e = .returned (.bool true) ∧ Below w.heap.size w w' := by
  unfold maxLen at hm hm2
  have H1 := Lib.hid h1
  have H2 := Lib.hid h2
  have h0i : (0 : Int) < (n : Int) := by omega
  clear h1 h2
  go_enter Tryz.func51, Tryz.ntmps51
  go_wp2
  go_loopw [13] (fun si wr => ∃ (k : Nat), k ≤ n ∧ si = .int .i64 (k : Int) ∧ Hid (Below w.heap.size w wr)) (fun si _ => n - (intOf si).toNat)
  case atStart => exact ⟨0, by omega, rfl, Lib.hid (Below.refl _ _)⟩
  case round =>
    obtain ⟨k, hk, rfl, HW⟩ := hrel
    by_cases hlt : k < n
    · obtain ⟨c0, c1, c2, c3, c4, c5, c6⟩ := H1.out wr HW.out k hlt
      obtain ⟨e0, e1, e2, e3, e4, e5, e6⟩ := H2.out wr HW.out k hlt
      generalize agAt l k = a at c0 c1 c2 c3 c4 c5 c6 e0 e1 e2 e3 e4 e5 e6
      have i1 : (0 : Int) ≤ (k : Int) := by omega
      have i2 : (k : Int) < (n : Int) := by omega
      go_upto_region 6 with fail
      go_quiet (fail)
      have HW2 := Lib.hid (past HW.out (belowN wr nq))
      clear c0 c1 c2 c3 c4 c5 c6 e0 e1 e2 e3 e4 e5 e6
      generalize wr.drewN nq = wz at *
      go_wp2
      go_roundw
      case rel => exact ⟨k + 1, by omega, by go_num, HW2⟩
      case measure => simp [intOf]; omega
    · go_wp2
      (try rw [Exit.noGoto_ret])
      go_ret
      exact ⟨rfl, HW.out⟩

set_option maxRecDepth 100000 in
theorem equalA_none (A B : Option Addr) (ca cb : Nat) (w : World) : Calls Tryz.prog 51 #[.slice A 0 ca, .slice B 0 cb] w fun e w' => e = .returned (.bool true) ∧ Below w.heap.size w w' := by
  go_enter Tryz.func51, Tryz.ntmps51
  go_wp2
  refine wp_loop_rounds 1 ?_
  rw [rounds_succ]
  go_wp2
  (try rw [Exit.noGoto_ret])
  go_ret
  exact ⟨rfl, Below.refl _ _⟩

theorem equalA_any {A B : Option Addr} {n ca cb : Nat} {l : List Ag} {w : World} (h1 : RowOf w A n ca l) (h2 : RowOf w B n cb l) :
    Calls Tryz.prog 51 #[.slice A n ca, .slice B n cb] w fun e w' => e = .returned (.bool true) ∧ Below w.heap.size w w' := by
  by_cases h0 : 0 < n
  · obtain ⟨b, off, rfl, hc1⟩ := h1.form h0
    obtain ⟨b2, off2, rfl, hc2⟩ := h2.form h0
    exact equalA_in b off b2 off2 n ca cb l w h1.2.2.1 h2.2.2.1 h1.2.2.2.1 h2.2.2.2.1 h0 hc1 hc2
  · obtain rfl : n = 0 := by omega
    exact equalA_none A B ca cb w

abbrev sgV (i k f t : Int) (A : Option Addr) (n ca : Nat) (B : Option Addr) (m cb : Nat) : Value := .agg #[.int .i64 i, .int .i64 k, .int .i64 f, .int .i64 t, .slice A n ca, .slice B m cb]

set_option maxHeartbeats 1000000 in
theorem sameG_eq {i k f t : Int} {sm : List (Int × Int)} {ag : List Ag} {A A' B B' : Option Addr} {n ca m cb n' ca' m' cb' : Nat} {w : World} (h1 : SegAt w ⟨i, k, f, t, sm, ag⟩ A n ca B m cb) (h2 : SegAt w ⟨i, k, f, t, sm, ag⟩ A' n' ca' B' m' cb') :
    Calls Tryz.prog 19 #[.agg #[.int .i64 i, .int .i64 k, .int .i64 f, .int .i64 t, .slice A n ca, .slice B m cb], .agg #[.int .i64 i, .int .i64 k, .int .i64 f, .int .i64 t, .slice A' n' ca', .slice B' m' cb']] w fun e w' => e = .returned (.bool true) ∧ Below w.heap.size w w' := by
  obtain rfl : n = n' := by rw [← h1.sn, ← h2.sn]
  obtain rfl : m = m' := by rw [← h1.ag.1, ← h2.ag.1]
  have m1 := fun u (hu : Below w.heap.size w u) => equal_any h1.sn (h1.sm.below hu).samps (h2.sm.below hu).samps (by rw [← h1.sn]; exact h1.sm.le) (by rw [← h2.sn]; exact h2.sm.le) h1.sm.max h2.sm.max
  have m2 := fun u (hu : Below w.heap.size w u) => equalA_any (h1.below hu).ag (h2.below hu).ag
  have M1 := Lib.hid m1
  have M2 := Lib.hid m2
  clear h1 h2 m1 m2
  go_enter Tryz.func19, Tryz.ntmps19
  go_wp2_with fail
  refine (M1.out _ (past (below_box _ _) (below_box _ _))).mono ?_
  rintro e w2 ⟨rfl, hb2⟩
  have HB2 := Lib.hid (past (past (below_box _ _) (below_box _ _)) hb2)
  have c0 := ((SgV.new w i k f t (.slice A n ca) (.slice B m cb) 25).below (below_box _ (.cells #[.int .i64 i, .int .i64 k, .int .i64 f, .int .i64 t, .slice A' n ca', .slice B' m cb'] 25))).below hb2
  have c1 := (SgV.new (w.alloc (.cells #[.int .i64 i, .int .i64 k, .int .i64 f, .int .i64 t, .slice A n ca, .slice B m cb] 25)) i k f t (.slice A' n ca') (.slice B' m cb') 25).below hb2
  have d0 := c0.c5
  have d1 := c1.c5
  have e1 : (w.alloc (.cells #[.int .i64 i, .int .i64 k, .int .i64 f, .int .i64 t, .slice A n ca, .slice B m cb] 25)).heap.size = w.heap.size + 1 := by simp
  rw [e1] at d1
  clear c0 c1 hb2 e1
  go_wp2_with fail
  refine (M2.out _ HB2.out).mono ?_
  rintro e w3 ⟨rfl, hb3⟩
  have HB3 := Lib.hid (past HB2.out hb3)
  clear hb3
  go_wp2
  go_ret
  exact ⟨rfl, HB3.out⟩

set_option maxHeartbeats 1000000 in
theorem sameG_ne {i k f t i' k' f' t' : Int} {A A' B B' : Option Addr} {n ca m cb n' ca' m' cb' : Nat} {w : World} (h : ¬ (i = i' ∧ k = k' ∧ f = f' ∧ t = t')) :
    Calls Tryz.prog 19 #[.agg #[.int .i64 i, .int .i64 k, .int .i64 f, .int .i64 t, .slice A n ca, .slice B m cb], .agg #[.int .i64 i', .int .i64 k', .int .i64 f', .int .i64 t', .slice A' n' ca', .slice B' m' cb']] w fun e w' => e = .returned (.bool false) ∧ Below w.heap.size w w' := by
  have HB : Hid (∀ o o', Below w.heap.size w ((w.alloc o).alloc o')) := Lib.hid (fun o o' => past (below_box _ _) (below_box _ _))
  by_cases h1 : i = i'
  · by_cases h2 : k = k'
    · by_cases h3 : f = f'
      · have h4 : ¬ t = t' := fun h4 => h ⟨h1, h2, h3, h4⟩
        have e1 : (i == i') = true := by simp [h1]
        have e2 : (k == k') = true := by simp [h2]
        have e3 : (f == f') = true := by simp [h3]
        have e4 : (t == t') = false := by simp [h4]
        clear h h1 h2 h3 h4
        go_enter Tryz.func19, Tryz.ntmps19
        go_wp2
        go_ret
        exact ⟨rfl, HB.out _ _⟩
      · have e1 : (i == i') = true := by simp [h1]
        have e2 : (k == k') = true := by simp [h2]
        have e3 : (f == f') = false := by simp [h3]
        clear h h1 h2 h3
        go_enter Tryz.func19, Tryz.ntmps19
        go_wp2
        go_ret
        exact ⟨rfl, HB.out _ _⟩
    · have e1 : (i == i') = true := by simp [h1]
      have e2 : (k == k') = false := by simp [h2]
      clear h h1 h2
      go_enter Tryz.func19, Tryz.ntmps19
      go_wp2
      go_ret
      exact ⟨rfl, HB.out _ _⟩
  · have e1 : (i == i') = false := by simp [h1]
    clear h h1
    go_enter Tryz.func19, Tryz.ntmps19
    go_wp2
    go_ret
    exact ⟨rfl, HB.out _ _⟩
end Go.Proofs.YtepancmkopifpaaGreatDoor
set_option maxRecDepth 100000
namespace Go.Proofs.YtepancmkopifpaaGreatDoor
open Go.RowKit
attribute [local go_sem ↓] Go.wp_at_zero Go.wp_at_succ
set_option linter.unusedVariables false

/-- What Info returns. -/
def InfoG (w : World) (b : List Nat) (R : Option Sg) (e : Ending) (w' : World) : Prop :=
  (match R with
    | some s => e = .returned (.tuple #[.agg #[.int .i64 s.id, .int .i64 s.tier, .int .i64 s.fr, .int .i64 s.tz, .int .u32 (more 1 (b.take (b.length - 4)) : Nat)], .int .i64 0])
    | none => e = .returned (.tuple #[.agg #[.int .i64 0, .int .i64 0, .int .i64 0, .int .i64 0, .int .u32 0], .int .i64 2])) ∧ Below w.heap.size w w'
/-- A struct variable of five cells: an info's. -/
structure IfV (w : World) (g : Nat) (i k f t c : Int) : Prop where
  c0 : w.cell? ⟨g, 0, none⟩ = some (.int .i64 i)
  c1 : w.cell? ⟨g, 1, none⟩ = some (.int .i64 k)
  c2 : w.cell? ⟨g, 2, none⟩ = some (.int .i64 f)
  c3 : w.cell? ⟨g, 3, none⟩ = some (.int .i64 t)
  c4 : w.cell? ⟨g, 4, none⟩ = some (.int .u32 c)
  z0 : w.frozen? ⟨g, 0, none⟩ = false
  z1 : w.frozen? ⟨g, 1, none⟩ = false
  z2 : w.frozen? ⟨g, 2, none⟩ = false
  z3 : w.frozen? ⟨g, 3, none⟩ = false
  z4 : w.frozen? ⟨g, 4, none⟩ = false
theorem IfV.new (w : World) (i k f t c : Int) (ty : TypeId) : IfV (w.alloc (.cells #[.int .i64 i, .int .i64 k, .int .i64 f, .int .i64 t, .int .u32 c] ty)) w.heap.size i k f t c := by constructor <;> simp
theorem IfV.lt {w : World} {g : Nat} {i k f t c : Int} (h : IfV w g i k f t c) : g < w.heap.size := World.block_lt_of_cell? w _ h.c0
theorem IfV.below {w w' : World} {g : Nat} {i k f t c : Int} (h : IfV w g i k f t c) (hb : Below w.heap.size w w') : IfV w' g i k f t c := by
  have l := h.lt
  obtain ⟨c0, c1, c2, c3, c4, z0, z1, z2, z3, z4⟩ := h
  exact ⟨by rw [hb.cell l]; exact c0, by rw [hb.cell l]; exact c1, by rw [hb.cell l]; exact c2, by rw [hb.cell l]; exact c3, by rw [hb.cell l]; exact c4, by rw [hb.frozen l]; exact z0, by rw [hb.frozen l]; exact z1, by rw [hb.frozen l]; exact z2, by rw [hb.frozen l]; exact z3, by rw [hb.frozen l]; exact z4⟩
theorem below_set5 {w w5 : World} {g B : Nat} {a0 a1 a2 a3 a4 : Value} (h : Below B w w5) (hg : B ≤ g) :
    Below B w (((((w5.setCell ⟨g, 0, none⟩ a0).setCell ⟨g, 1, none⟩ a1).setCell ⟨g, 2, none⟩ a2).setCell ⟨g, 3, none⟩ a3).setCell ⟨g, 4, none⟩ a4) :=
  ((((h.setCell hg _).setCell hg _).setCell hg _).setCell hg _).setCell hg _

theorem four_set5 {w' : World} {gS g0 : Nat} {i k f t : Int} (u0 u1 u2 u3 u4 : Value) (hne : gS ≠ g0) (h : w'.cell? ⟨gS, 0, none⟩ = some (.int .i64 i) ∧ w'.cell? ⟨gS, 1, none⟩ = some (.int .i64 k) ∧ w'.cell? ⟨gS, 2, none⟩ = some (.int .i64 f) ∧ w'.cell? ⟨gS, 3, none⟩ = some (.int .i64 t)) :
    ((((((w'.setCell ⟨g0, 0, none⟩ u0).setCell ⟨g0, 1, none⟩ u1).setCell ⟨g0, 2, none⟩ u2).setCell ⟨g0, 3, none⟩ u3).setCell ⟨g0, 4, none⟩ u4).cell? ⟨gS, 0, none⟩ = some (.int .i64 i) ∧
    (((((w'.setCell ⟨g0, 0, none⟩ u0).setCell ⟨g0, 1, none⟩ u1).setCell ⟨g0, 2, none⟩ u2).setCell ⟨g0, 3, none⟩ u3).setCell ⟨g0, 4, none⟩ u4).cell? ⟨gS, 1, none⟩ = some (.int .i64 k) ∧
    (((((w'.setCell ⟨g0, 0, none⟩ u0).setCell ⟨g0, 1, none⟩ u1).setCell ⟨g0, 2, none⟩ u2).setCell ⟨g0, 3, none⟩ u3).setCell ⟨g0, 4, none⟩ u4).cell? ⟨gS, 2, none⟩ = some (.int .i64 f) ∧
    (((((w'.setCell ⟨g0, 0, none⟩ u0).setCell ⟨g0, 1, none⟩ u1).setCell ⟨g0, 2, none⟩ u2).setCell ⟨g0, 3, none⟩ u3).setCell ⟨g0, 4, none⟩ u4).cell? ⟨gS, 3, none⟩ = some (.int .i64 t)) := by
  have e : ∀ (w : World) (j l : Nat) (u : Value), (w.setCell ⟨g0, j, none⟩ u).cell? ⟨gS, l, none⟩ = w.cell? ⟨gS, l, none⟩ := fun w j l u => World.cell?_of_block (Below.heap_setCell _ _ _ _ hne)
  simp only [e]
  exact h

set_option maxHeartbeats 600000 in
theorem infoG_any {A : Option Addr} {n ca : Nat} {b : List Nat} {w : World} (h : BRow w A n ca b) (hw : Wid w) :
    Calls Tryz.prog 10 #[.slice A n ca] w (InfoG w b (readS b)) := by
  have hmax := h.max
  have hle := h.le
  unfold maxLen at hmax
  have m1 := fun u (hu : Below w.heap.size w u) => getG_any (h.below hu) (hw.below hu)
  have M1 := Lib.hid m1
  have HV0 := Lib.hid (IfV.new w 0 0 0 0 0 38)
  have HH := Lib.hid h
  have HL := Lib.hid h.len
  have H4 : Hid (∀ s, readS b = some s → 6 ≤ n) := Lib.hid (fun s e => by
    unfold readS at e
    split at e
    · cases e
    · rename_i hq
      have := h.len
      rcases Nat.lt_or_ge b.length 6 with h6 | h6
      · exact absurd (Or.inl h6) hq
      · omega)
  clear m1 h hw
  cases hR : readS b with
  | none =>
    rw [hR] at M1
    clear hmax hle hR H4
    go_enter Tryz.func10, Tryz.ntmps10
    go_wp2_with fail
    refine (M1.out _ (below_box _ _)).mono ?_
    rintro e w2 ⟨rfl, hb2⟩
    have HB2 := Lib.hid (past (below_box _ _) hb2)
    obtain ⟨d0, d1, d2, d3, d4, y0, y1, y2, y3, y4⟩ := (HV0.out.below hb2).below (below_box w2 (.cells #[.int .i64 0, .int .i64 0, .int .i64 0, .int .i64 0, .slice none 0 0, .slice none 0 0] 25))
    clear hb2
    go_wp2
    (try simp only [Exit.inBlock, Exit.then])
    refine bodyPost_ret (v := .tuple #[.agg #[.int .i64 0, .int .i64 0, .int .i64 0, .int .i64 0, .int .u32 0], .int .i64 2]) ?_ rfl ?_
    · rw [results_cell_tmp rfl]
      go_simp
    · exact ⟨rfl, below_set5 (past HB2.out (below_box _ _)) (Nat.le_refl _)⟩
  | some s =>
    rw [hR] at M1
    have h6 := H4.out s hR
    have hs1 := fun w => sliceB_hi (A := A) (n := n) (k := n - 4) (cap := ca) (by omega) w
    obtain ⟨K, hK⟩ : ∃ K, K = n - 4 := ⟨_, rfl⟩
    rw [← hK] at hs1
    have i0 : IntKind.i64.wrap ((n : Int) - 4) = (K : Int) := by rw [IntKind.wrap_i64]; omega
    have m2 : ∀ u, Below w.heap.size w u → _ := fun u hu => by
      have hr := (HH.out.below hu).take (show K ≤ n by omega)
      exact of_any hr.len hr.bytes hr.le hr.max
    have HK : Hid (b.take (b.length - 4) = b.take K) := Lib.hid (by rw [HL.out, hK])
    have M2 := Lib.hid m2
    obtain ⟨S, hS⟩ : ∃ S, more 1 (b.take K) = S := ⟨_, rfl⟩
    rw [hS] at M2
    have HS := Lib.hid hS
    obtain ⟨i, k, f, t, sm, ag⟩ := s
    clear hmax hle hR H4 hK h6 m2 hS
    go_enter Tryz.func10, Tryz.ntmps10
    go_wp2_with fail
    refine (M1.out _ (below_box _ _)).mono ?_
    rintro e w2 ⟨⟨A2, n2, ca2, B2, m2, cb2, rfl, hsg⟩, hb2⟩
    have HB2 := Lib.hid (past (past (below_box _ _) hb2) (below_box w2 (.cells #[.int .i64 i, .int .i64 k, .int .i64 f, .int .i64 t, .slice A2 n2 ca2, .slice B2 m2 cb2] 25)))
    have hS2 : w.heap.size < w2.heap.size := by have := hb2.size; simp at this; omega
    have HV2 := Lib.hid ((HV0.out.below hb2).below (below_box w2 (.cells #[.int .i64 i, .int .i64 k, .int .i64 f, .int .i64 t, .slice A2 n2 ca2, .slice B2 m2 cb2] 25)))
    have HG2 := Lib.hid (SgV.new w2 i k f t (.slice A2 n2 ca2) (.slice B2 m2 cb2) 25)
    have hne : w.heap.size ≠ w2.heap.size := Nat.ne_of_lt hS2
    have hne' : w2.heap.size ≠ w.heap.size := fun h => hne h.symm
    clear hb2 hsg hS2
    go_upto_region 4 with fail
    generalize hw3 : w2.alloc (.cells #[.int .i64 i, .int .i64 k, .int .i64 f, .int .i64 t, .slice A2 n2 ca2, .slice B2 m2 cb2] 25) = w3 at *
    obtain ⟨d0, d1, d2, d3, d4, y0, y1, y2, y3, y4⟩ := HV2.out
    obtain ⟨r0, r1, r2, r3, r4, r5, s0, s1, s2, s3, s4, s5⟩ := HG2.out
    clear hw3
    have HM3 : Hid (∀ m, Calls Tryz.prog 34 #[.slice A K ca] (w3.drewN m) fun e w' => e = .returned (.int .u32 (S : Int)) ∧ w3.drewN m = w') := Lib.hid (fun m => M2.out _ (past HB2.out (belowN _ _)))
    generalize hgS : w2.heap.size = gS at *
    generalize hg0 : w.heap.size = g0 at *
    have HG0 := Lib.hid hg0
    clear hgS hg0
    have HNE := Lib.hid hne'
    have HST : Hid (∀ m, (w3.drewN m).cell? ⟨gS, 0, none⟩ = some (.int .i64 i) ∧ (w3.drewN m).cell? ⟨gS, 1, none⟩ = some (.int .i64 k) ∧ (w3.drewN m).cell? ⟨gS, 2, none⟩ = some (.int .i64 f) ∧ (w3.drewN m).cell? ⟨gS, 3, none⟩ = some (.int .i64 t)) := Lib.hid (fun m => ⟨r0, r1, r2, r3⟩)
    have HSD : Hid (w3.drew.cell? ⟨gS, 0, none⟩ = some (.int .i64 i) ∧ w3.drew.cell? ⟨gS, 1, none⟩ = some (.int .i64 k) ∧ w3.drew.cell? ⟨gS, 2, none⟩ = some (.int .i64 f) ∧ w3.drew.cell? ⟨gS, 3, none⟩ = some (.int .i64 t)) := Lib.hid ⟨r0, r1, r2, r3⟩
    go_region_held3 (fun w' => w'.cell? ⟨gS, 0, none⟩ = some (.int .i64 i) ∧ w'.cell? ⟨gS, 1, none⟩ = some (.int .i64 k) ∧ w'.cell? ⟨gS, 2, none⟩ = some (.int .i64 f) ∧ w'.cell? ⟨gS, 3, none⟩ = some (.int .i64 t))
      (first
        | with_reducible exact HSD.out
        | with_reducible exact HST.out 1
        | with_reducible exact HST.out 0
        | (with_reducible refine four_set5 _ _ _ _ _ HNE.out ?_; first | with_reducible exact HSD.out | with_reducible exact HST.out 1))
      (first | (go_at_call 34; refine (HM3.out _).mono ?_; rintro e w5 ⟨rfl, rfl⟩))
    all_goals
      go_wp2
      (try simp only [Exit.inBlock, Exit.then])
      refine bodyPost_ret (v := .tuple #[.agg #[.int .i64 i, .int .i64 k, .int .i64 f, .int .i64 t, .int .u32 (S : Int)], .int .i64 0]) ?_ rfl ?_
      · rw [results_cell_tmp rfl]
        go_simp
      · have := HG0.out
        subst this
        refine ⟨?_, below_set5 (past HB2.out (belowN _ _)) (Nat.le_refl _)⟩
        rw [HK.out, HS.out]
end Go.Proofs.YtepancmkopifpaaGreatDoor
