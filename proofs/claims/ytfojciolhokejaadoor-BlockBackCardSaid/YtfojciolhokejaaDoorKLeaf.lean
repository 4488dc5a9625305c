/-
  The landed block's reader: refuse, number, count, isDone; above: what each returns, what it writes.
-/
import Derived.Test.YtfojciolhokejaaDoorKMath
import Derived.Test.YtfojciolhokejaaDoorBRBlk
namespace Go.Proofs.YtfojciolhokejaaDoor
open Go.RowKit
set_option linter.unusedVariables false

/-- The reader at block g of the slice V stands at p; bad: it has met an error. -/
structure RAt (w : World) (g : Nat) (V : Value) (p : Nat) (bad : Bool) : Prop where
  c0 : w.cell? ⟨g, 0, none⟩ = some V
  c1 : w.cell? ⟨g, 1, none⟩ = some (.int .i64 (p : Int))
  c2 : w.cell? ⟨g, 2, none⟩ = some (.bool bad)
  f1 : w.frozen? ⟨g, 1, none⟩ = false
  f2 : w.frozen? ⟨g, 2, none⟩ = false
theorem RAt.lt {w : World} {g : Nat} {V : Value} {p : Nat} {bad : Bool} (h : RAt w g V p bad) : g < w.heap.size := World.block_lt_of_cell? w _ h.c0
theorem RAt.below {w w' : World} {g : Nat} {V : Value} {p : Nat} {bad : Bool} (h : RAt w g V p bad) (hb : Below w.heap.size w w') : RAt w' g V p bad :=
  ⟨by rw [hb.cell h.lt]; exact h.c0, by rw [hb.cell h.lt]; exact h.c1, by rw [hb.cell h.lt]; exact h.c2, by rw [hb.frozen h.lt]; exact h.f1, by rw [hb.frozen h.lt]; exact h.f2⟩
theorem RAt.grown {w w' : World} {g : Nat} {V : Value} {p : Nat} {bad : Bool} {row : Option Nat} (h : RAt w g V p bad) (hg : w.grownBy w' row) (hne : some g ≠ row) : RAt w' g V p bad := by
  have c := fun k => hg.cell_far ⟨g, k, none⟩ h.lt hne
  have f := fun k => hg.frozen_far ⟨g, k, none⟩ h.lt hne
  exact ⟨by rw [c]; exact h.c0, by rw [c]; exact h.c1, by rw [c]; exact h.c2, by rw [f]; exact h.f1, by rw [f]; exact h.f2⟩
theorem RAt.bad_ {w : World} {g : Nat} {V : Value} {p : Nat} {bad : Bool} (h : RAt w g V p bad) (b : Bool) : RAt (w.setCell ⟨g, 2, none⟩ (.bool b)) g V p b := by
  obtain ⟨c0, c1, c2, f1, f2⟩ := h
  constructor <;> simp [go_sem, *]
theorem RAt.to {w : World} {g : Nat} {V : Value} {p : Nat} {bad : Bool} (h : RAt w g V p bad) (q : Nat) : RAt (w.setCell ⟨g, 1, none⟩ (.int .i64 (q : Int))) g V q bad := by
  obtain ⟨c0, c1, c2, f1, f2⟩ := h
  constructor <;> simp [go_sem, *]
theorem g_cell (w : World) (g k : Nat) (a : Value) : w.grownBy (w.setCell ⟨g, k, none⟩ a) (some g) :=
  ⟨rfl, rfl, rfl, by simp [World.setCell], fun j _ hk => by
    have hne : j ≠ g := fun e => hk (by rw [e])
    rw [Below.heap_setCell _ _ _ _ (fun e => hne e)]⟩

set_option maxRecDepth 100000 in
theorem refuse_any (g : Nat) (V : Value) (p : Nat) (bad b : Bool) (w : World) (h : RAt w g V p bad) :
    Calls Tryd.prog 38 #[.pointer (some ⟨g, 0, none⟩), .bool b] w fun e w' => e = .returned (.tuple #[]) ∧ RAt w' g V p (bad || b) ∧ w.grownBy w' (some g) := by
  have c2 := h.c2
  have f2 := h.f2
  have HA := Lib.hid (fun b => h.bad_ b)
  have HG := Lib.hid (fun b => g_cell w g 2 (.bool b))
  clear h
  cases bad with
  | true =>
    go_enter Tryd.func38, Tryd.ntmps38
    go_wp2
    go_end0
    exact ⟨rfl, HA.out true, HG.out true⟩
  | false =>
    go_enter Tryd.func38, Tryd.ntmps38
    go_wp2
    go_end0
    exact ⟨rfl, by rw [Bool.false_or]; exact HA.out b, HG.out b⟩

/-- The reader over a row of bytes; what lies below B is not its own. -/
structure RB (w : World) (B g : Nat) (A : Option Addr) (len cap : Nat) (bs : List Nat) (p : Nat) (bad : Bool) : Prop where
  at_ : RAt w g (.slice A len cap) p bad
  by_ : Bytes w A bs
  ln : bs.length = len
  lc : len ≤ cap
  cm : cap ≤ maxLen
  low : 0 < bs.length → ∀ ad, A = some ad → ad.block < B
  base : B ≤ g
  le : p ≤ bs.length
theorem RB.grown {w w' : World} {B g : Nat} {A : Option Addr} {len cap : Nat} {bs : List Nat} {p : Nat} {bad : Bool} {row : Option Nat} (h : RB w B g A len cap bs p bad) (hg : w.grownBy w' row) (hne : some g ≠ row) (hr : ∀ k, row = some k → B ≤ k) : RB w' B g A len cap bs p bad :=
  ⟨h.at_.grown hg hne, ⟨h.by_.1, fun hp => by
    obtain ⟨ad, e, hc⟩ := h.by_.2 hp
    refine ⟨ad, e, fun j hj => ?_⟩
    rw [← hc j hj]
    have hl := h.low hp ad e
    refine hg.cell_far _ (World.block_lt_of_cell? w _ (hc j hj)) (fun e2 => ?_)
    have := hr _ e2.symm
    have e3 : (ad.add j).block = ad.block := by unfold Addr.add; split <;> rfl
    omega⟩, h.ln, h.lc, h.cm, h.low, h.base, h.le⟩
theorem RB.on {w w' : World} {B g : Nat} {A : Option Addr} {len cap : Nat} {bs : List Nat} {p q : Nat} {bad b : Bool} (h : RB w B g A len cap bs p bad) (hg : w.grownBy w' (some g)) (ha : RAt w' g (.slice A len cap) q b) (hq : q ≤ bs.length) : RB w' B g A len cap bs q b :=
  ⟨ha, ⟨h.by_.1, fun hp => by
    obtain ⟨ad, e, hc⟩ := h.by_.2 hp
    refine ⟨ad, e, fun j hj => ?_⟩
    rw [← hc j hj]
    have hl := h.low hp ad e
    refine hg.cell_far _ (World.block_lt_of_cell? w _ (hc j hj)) (fun e2 => ?_)
    injection e2 with e2
    have hb := h.base
    have e3 : (ad.add j).block = ad.block := by unfold Addr.add; split <;> rfl
    omega⟩, h.ln, h.lc, h.cm, h.low, h.base, hq⟩
def NumP (w : World) (B g : Nat) (A : Option Addr) (len cap : Nat) (bs : List Nat) (y : Nat × Nat × Bool) (bad : Bool) (e : Ending) (w' : World) : Prop :=
  e = .returned (.int .u64 (y.1 : Int)) ∧ RB w' B g A len cap bs y.2.1 (bad || y.2.2) ∧ w.grownBy w' (some g)

set_option maxRecDepth 100000 in
set_option maxHeartbeats 1000000 in
theorem number_any (B g : Nat) (A : Option Addr) (len cap : Nat) (bs : List Nat) (p : Nat) (bad : Bool) (w : World) (h : RB w B g A len cap bs p bad) :
    Calls Tryd.prog 29 #[.pointer (some ⟨g, 0, none⟩)] w (NumP w B g A len cap bs (numR bs p false) bad) := by
  have m1 := fun k => get_nat A len cap bs p (w.drewN k) h.ln (h.by_.below (belowN w k)) h.lc h.cm (by have := h.le; have := h.ln; omega)
  obtain ⟨c0, c1, c2, f1, f2⟩ := h.at_
  have hle := (numR_le (bad := false) h.by_.1 h.le).1
  have H := Lib.hid h
  have HD : Hid (∀ k, w.grownBy (w.drewN k) (some g)) := Lib.hid (fun k => ⟨rfl, rfl, rfl, Nat.le_refl _, fun _ _ _ => rfl⟩)
  have MR := Lib.hid (fun w p bad b h => refuse_any g (.slice A len cap) p bad b w h)
  cases hd : dec 0 0 (bs.drop p) with
  | none =>
    rw [hd] at m1
    unfold getE at m1
    have M1 := Lib.hid m1
    have HN : numR bs p false = (0, p, true) := by unfold numR; simp only; rw [hd]
    rw [HN]
    clear m1 hd h HN hle
    go_enter Tryd.func29, Tryd.ntmps29
    go_upto_region 1 with fail
    go_quiet ((exact quiet_same (M1.out _)))
    have HA := Lib.hid (H.out.at_.below (belowN w nq))
    have HGQ := Lib.hid (HD.out nq)
    generalize w.drewN nq = wq at *
    clear c0 c1 c2 f1 f2
    go_wp2_with fail
    refine (MR.out _ p bad true HA.out).mono ?_
    rintro e w2 ⟨rfl, ha2, hg2⟩
    have fz := ha2.f1
    have fc := ha2.c1
    have HF := Lib.hid (H.out.on (HGQ.out.trans (hg2.trans (g_cell w2 g 1 (.int .i64 (p : Int))))) (ha2.to p) H.out.le)
    have HG2 := Lib.hid (HGQ.out.trans (hg2.trans (g_cell w2 g 1 (.int .i64 (p : Int)))))
    clear ha2 hg2
    go_wp2
    go_ret
    exact ⟨rfl, HF.out, HG2.out⟩
  | some y =>
    obtain ⟨v, k⟩ := y
    rw [hd] at m1
    unfold getE at m1
    simp only at m1
    have HN : numR bs p false = (v, p + k, false) := by unfold numR; simp only; rw [hd]
    rw [HN] at hle ⊢
    simp only at hle
    generalize hq : p + k = q at *
    have M1 := Lib.hid m1
    clear m1 hd h HN hq
    go_enter Tryd.func29, Tryd.ntmps29
    go_upto_region 1 with fail
    go_quiet ((exact quiet_same (M1.out _)))
    have HA := Lib.hid (H.out.at_.below (belowN w nq))
    have HGQ := Lib.hid (HD.out nq)
    generalize w.drewN nq = wq at *
    clear c0 c1 c2 f1 f2
    go_wp2_with fail
    refine (MR.out _ p bad false HA.out).mono ?_
    rintro e w2 ⟨rfl, ha2, hg2⟩
    have fz := ha2.f1
    have fc := ha2.c1
    have HF := Lib.hid (H.out.on (HGQ.out.trans (hg2.trans (g_cell w2 g 1 (.int .i64 (q : Int))))) (ha2.to q) hle)
    have HG2 := Lib.hid (HGQ.out.trans (hg2.trans (g_cell w2 g 1 (.int .i64 (q : Int)))))
    clear ha2 hg2 hle
    go_wp2
    go_ret
    exact ⟨rfl, HF.out, HG2.out⟩

set_option maxRecDepth 100000 in
theorem kcount_any (B g : Nat) (A : Option Addr) (len cap : Nat) (bs : List Nat) (w : World) (h : RB w B g A len cap bs 0 false) (y : Nat × Nat × Bool) (hy : numR bs 0 false = y) :
    Calls Tryd.prog 28 #[.pointer (some ⟨g, 0, none⟩), .int .u64 64] w fun e w' => e = .returned (.int .i64 (if 64 < y.1 then 0 else y.1 : Nat)) ∧ RB w' B g A len cap bs y.2.1 (y.2.2 || decide (64 < y.1)) ∧ w.grownBy w' (some g) := by
  have m1 := number_any B g A len cap bs 0 false w h
  unfold NumP at m1
  have hlt := (numR_le (bad := false) h.by_.1 h.le).2
  rw [hy] at m1 hlt
  obtain ⟨n, p, b⟩ := y
  simp only [Bool.false_or] at m1 hlt ⊢
  have M1 := Lib.hid m1
  have MR := Lib.hid (fun w p bad b h => refuse_any g (.slice A len cap) p bad b w h)
  by_cases h64 : 64 < n
  · rw [if_pos h64, decide_eq_true h64]
    have hi : (64 : Int) < (n : Int) := by omega
    clear m1 h64 h hy
    go_enter Tryd.func28, Tryd.ntmps28
    go_wp2_with fail
    refine M1.out.mono ?_
    rintro e w1 ⟨rfl, h1, hg1⟩
    have H1 := Lib.hid h1
    have HG1 := Lib.hid hg1
    clear h1 hg1
    go_wp2_with fail
    refine (MR.out _ p b true H1.out.at_).mono ?_
    rintro e w2 ⟨rfl, ha2, hg2⟩
    have HF := Lib.hid (H1.out.on hg2 ha2 H1.out.le)
    have HG2 := Lib.hid (HG1.out.trans hg2)
    clear ha2 hg2
    go_wp2
    go_ret
    exact ⟨rfl, HF.out, HG2.out⟩
  · rw [if_neg h64, decide_eq_false h64, Bool.or_false]
    have hi : ¬ (64 : Int) < (n : Int) := by omega
    have hw : IntKind.i64.wrap (n : Int) = (n : Int) := by rw [IntKind.wrap_i64]; omega
    clear m1 h64 h hy
    go_enter Tryd.func28, Tryd.ntmps28
    go_wp2_with fail
    refine M1.out.mono ?_
    rintro e w1 ⟨rfl, h1, hg1⟩
    have H1 := Lib.hid h1
    have HG1 := Lib.hid hg1
    clear h1 hg1
    go_wp2
    go_ret
    exact ⟨rfl, H1.out, HG1.out⟩

set_option maxRecDepth 100000 in
theorem done_any (B g : Nat) (A : Option Addr) (len cap : Nat) (bs : List Nat) (p : Nat) (bad : Bool) (w : World) (h : RB w B g A len cap bs p bad) :
    Calls Tryd.prog 31 #[.pointer (some ⟨g, 0, none⟩)] w fun e w' => e = .returned (.bool (!bad && decide (p = bs.length))) ∧ Below w.heap.size w w' := by
  obtain ⟨c0, c1, c2, f1, f2⟩ := h.at_
  have hl := h.ln
  cases bad with
  | true =>
    clear h
    go_enter Tryd.func31, Tryd.ntmps31
    go_upto_region 1 with fail
    go_quiet (fail)
    go_wp2
    go_ret
    exact ⟨rfl, belowN _ _⟩
  | false =>
    have hE : Hid ((!false && decide (p = bs.length)) = ((p : Int) == (len : Int))) := Lib.hid (by
      rw [hl, Bool.eq_iff_iff]
      simp
      omega)
    rw [hE.out]
    obtain ⟨b, hb⟩ : ∃ b, ((p : Int) == (len : Int)) = b := ⟨_, rfl⟩
    rw [hb]
    clear h hl hE
    cases b
    all_goals
      go_enter Tryd.func31, Tryd.ntmps31
      go_upto_region 1 with fail
      go_quiet (fail)
      go_wp2
      go_ret
      exact ⟨rfl, belowN _ _⟩

theorem above_any (a b : Int) (X : Nat) (w : World) (h : IntKind.u64.wrap (IntKind.u64.wrap a - IntKind.u64.wrap b) = (X : Int)) :
    Calls Tryd.prog 35 #[.int .i64 a, .int .i64 b] w fun e w' => e = .returned (.int .u64 (X : Int)) ∧ w = w' := by
  obtain ⟨U, hU⟩ : ∃ U, IntKind.u64.wrap a = U := ⟨_, rfl⟩
  obtain ⟨V, hV⟩ : ∃ V, IntKind.u64.wrap b = V := ⟨_, rfl⟩
  rw [hU, hV] at h
  go_enter Tryd.func35, Tryd.ntmps35
  go_wp2
  go_ret
  exact ⟨rfl, rfl⟩
end Go.Proofs.YtfojciolhokejaaDoor
