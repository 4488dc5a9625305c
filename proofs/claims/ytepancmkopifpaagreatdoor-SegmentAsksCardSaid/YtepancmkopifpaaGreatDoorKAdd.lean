/-
  The landed block's reader: refuse, number, count, isDone; above: what each returns, what it writes.
  The landed block's add: numbers' bytes behind a row of the call's own; nothing else that was there is written.
-/
import Derived.Test.YtepancmkopifpaaGreatDoorKMath
import Derived.Test.YtepancmkopifpaaGreatDoorBRBlk
namespace Go.Proofs.YtepancmkopifpaaGreatDoor
open Go.RowKit
set_option linter.unusedVariables false

/-- The reader at block g of the slice V stands at p; bad: it has met an error. -/
structure RAt (w : World) (g : Nat) (V : Value) (p : Nat) (bad : Bool) : Prop where
  c0 : w.cell? ⟨g, 0, none⟩ = some V
  c1 : w.cell? ⟨g, 1, none⟩ = some (.int .i64 (p : Int))
  c2 : w.cell? ⟨g, 2, none⟩ = some (.bool bad)
  f1 : w.frozen? ⟨g, 1, none⟩ = false
  f2 : w.frozen? ⟨g, 2, none⟩ = false
theorem RAt.lt {w : World} {g : Nat} {V : Value} {p : Nat} {bad : Bool} (h : RAt w g V p bad) : g < w.heap.size := World.block_lt_of_cell? w _ h.c0
theorem RAt.below {w w' : World} {g : Nat} {V : Value} {p : Nat} {bad : Bool} (h : RAt w g V p bad) (hb : Below w.heap.size w w') : RAt w' g V p bad :=
  ⟨by rw [hb.cell h.lt]; exact h.c0, by rw [hb.cell h.lt]; exact h.c1, by rw [hb.cell h.lt]; exact h.c2, by rw [hb.frozen h.lt]; exact h.f1, by rw [hb.frozen h.lt]; exact h.f2⟩
theorem RAt.grown {w w' : World} {g : Nat} {V : Value} {p : Nat} {bad : Bool} {row : Option Nat} (h : RAt w g V p bad) (hg : w.grownBy w' row) (hne : some g ≠ row) : RAt w' g V p bad := by
  have c := fun k => hg.cell_far ⟨g, k, none⟩ h.lt hne
  have f := fun k => hg.frozen_far ⟨g, k, none⟩ h.lt hne
  exact ⟨by rw [c]; exact h.c0, by rw [c]; exact h.c1, by rw [c]; exact h.c2, by rw [f]; exact h.f1, by rw [f]; exact h.f2⟩
theorem RAt.bad_ {w : World} {g : Nat} {V : Value} {p : Nat} {bad : Bool} (h : RAt w g V p bad) (b : Bool) : RAt (w.setCell ⟨g, 2, none⟩ (.bool b)) g V p b := by
  obtain ⟨c0, c1, c2, f1, f2⟩ := h
  constructor <;> simp [go_sem, *]
theorem RAt.to {w : World} {g : Nat} {V : Value} {p : Nat} {bad : Bool} (h : RAt w g V p bad) (q : Nat) : RAt (w.setCell ⟨g, 1, none⟩ (.int .i64 (q : Int))) g V q bad := by
  obtain ⟨c0, c1, c2, f1, f2⟩ := h
  constructor <;> simp [go_sem, *]
theorem g_cell (w : World) (g k : Nat) (a : Value) : w.grownBy (w.setCell ⟨g, k, none⟩ a) (some g) :=
  ⟨rfl, rfl, rfl, by simp [World.setCell], fun j _ hk => by
    have hne : j ≠ g := fun e => hk (by rw [e])
    rw [Below.heap_setCell _ _ _ _ (fun e => hne e)]⟩

set_option maxRecDepth 100000 in
theorem refuse_any (g : Nat) (V : Value) (p : Nat) (bad b : Bool) (w : World) (h : RAt w g V p bad) :
    Calls Tryz.prog 87 #[.pointer (some ⟨g, 0, none⟩), .bool b] w fun e w' => e = .returned (.tuple #[]) ∧ RAt w' g V p (bad || b) ∧ w.grownBy w' (some g) := by
  have c2 := h.c2
  have f2 := h.f2
  have HA := Lib.hid (fun b => h.bad_ b)
  have HG := Lib.hid (fun b => g_cell w g 2 (.bool b))
  clear h
  cases bad with
  | true =>
    go_enter Tryz.func87, Tryz.ntmps87
    go_wp2
    go_end0
    exact ⟨rfl, HA.out true, HG.out true⟩
  | false =>
    go_enter Tryz.func87, Tryz.ntmps87
    go_wp2
    go_end0
    exact ⟨rfl, by rw [Bool.false_or]; exact HA.out b, HG.out b⟩

/-- The reader over a row of bytes; what lies below B is not its own. -/
structure RB (w : World) (B g : Nat) (A : Option Addr) (len cap : Nat) (bs : List Nat) (p : Nat) (bad : Bool) : Prop where
  at_ : RAt w g (.slice A len cap) p bad
  by_ : Bytes w A bs
  ln : bs.length = len
  lc : len ≤ cap
  cm : cap ≤ maxLen
  low : 0 < bs.length → ∀ ad, A = some ad → ad.block < B
  base : B ≤ g
  le : p ≤ bs.length
theorem RB.grown {w w' : World} {B g : Nat} {A : Option Addr} {len cap : Nat} {bs : List Nat} {p : Nat} {bad : Bool} {row : Option Nat} (h : RB w B g A len cap bs p bad) (hg : w.grownBy w' row) (hne : some g ≠ row) (hr : ∀ k, row = some k → B ≤ k) : RB w' B g A len cap bs p bad :=
  ⟨h.at_.grown hg hne, ⟨h.by_.1, fun hp => by
    obtain ⟨ad, e, hc⟩ := h.by_.2 hp
    refine ⟨ad, e, fun j hj => ?_⟩
    rw [← hc j hj]
    have hl := h.low hp ad e
    refine hg.cell_far _ (World.block_lt_of_cell? w _ (hc j hj)) (fun e2 => ?_)
    have := hr _ e2.symm
    have e3 : (ad.add j).block = ad.block := by unfold Addr.add; split <;> rfl
    omega⟩, h.ln, h.lc, h.cm, h.low, h.base, h.le⟩
theorem RB.on {w w' : World} {B g : Nat} {A : Option Addr} {len cap : Nat} {bs : List Nat} {p q : Nat} {bad b : Bool} (h : RB w B g A len cap bs p bad) (hg : w.grownBy w' (some g)) (ha : RAt w' g (.slice A len cap) q b) (hq : q ≤ bs.length) : RB w' B g A len cap bs q b :=
  ⟨ha, ⟨h.by_.1, fun hp => by
    obtain ⟨ad, e, hc⟩ := h.by_.2 hp
    refine ⟨ad, e, fun j hj => ?_⟩
    rw [← hc j hj]
    have hl := h.low hp ad e
    refine hg.cell_far _ (World.block_lt_of_cell? w _ (hc j hj)) (fun e2 => ?_)
    injection e2 with e2
    have hb := h.base
    have e3 : (ad.add j).block = ad.block := by unfold Addr.add; split <;> rfl
    omega⟩, h.ln, h.lc, h.cm, h.low, h.base, hq⟩
def NumP (w : World) (B g : Nat) (A : Option Addr) (len cap : Nat) (bs : List Nat) (y : Nat × Nat × Bool) (bad : Bool) (e : Ending) (w' : World) : Prop :=
  e = .returned (.int .u64 (y.1 : Int)) ∧ RB w' B g A len cap bs y.2.1 (bad || y.2.2) ∧ w.grownBy w' (some g)

set_option maxRecDepth 100000 in
set_option maxHeartbeats 1000000 in
theorem number_any (B g : Nat) (A : Option Addr) (len cap : Nat) (bs : List Nat) (p : Nat) (bad : Bool) (w : World) (h : RB w B g A len cap bs p bad) :
    Calls Tryz.prog 84 #[.pointer (some ⟨g, 0, none⟩)] w (NumP w B g A len cap bs (numR bs p false) bad) := by
  have m1 := fun k => get_nat A len cap bs p (w.drewN k) h.ln (h.by_.below (belowN w k)) h.lc h.cm (by have := h.le; have := h.ln; omega)
  obtain ⟨c0, c1, c2, f1, f2⟩ := h.at_
  have hle := (numR_le (bad := false) h.by_.1 h.le).1
  have H := Lib.hid h
  have HD : Hid (∀ k, w.grownBy (w.drewN k) (some g)) := Lib.hid (fun k => ⟨rfl, rfl, rfl, Nat.le_refl _, fun _ _ _ => rfl⟩)
  have MR := Lib.hid (fun w p bad b h => refuse_any g (.slice A len cap) p bad b w h)
  cases hd : dec 0 0 (bs.drop p) with
  | none =>
    rw [hd] at m1
    unfold getE at m1
    have M1 := Lib.hid m1
    have HN : numR bs p false = (0, p, true) := by unfold numR; simp only; rw [hd]
    rw [HN]
    clear m1 hd h HN hle
    go_enter Tryz.func84, Tryz.ntmps84
    go_upto_region 1 with fail
    go_quiet ((exact quiet_same (M1.out _)))
    have HA := Lib.hid (H.out.at_.below (belowN w nq))
    have HGQ := Lib.hid (HD.out nq)
    generalize w.drewN nq = wq at *
    clear c0 c1 c2 f1 f2
    go_wp2_with fail
    refine (MR.out _ p bad true HA.out).mono ?_
    rintro e w2 ⟨rfl, ha2, hg2⟩
    have fz := ha2.f1
    have fc := ha2.c1
    have HF := Lib.hid (H.out.on (HGQ.out.trans (hg2.trans (g_cell w2 g 1 (.int .i64 (p : Int))))) (ha2.to p) H.out.le)
    have HG2 := Lib.hid (HGQ.out.trans (hg2.trans (g_cell w2 g 1 (.int .i64 (p : Int)))))
    clear ha2 hg2
    go_wp2
    go_ret
    exact ⟨rfl, HF.out, HG2.out⟩
  | some y =>
    obtain ⟨v, k⟩ := y
    rw [hd] at m1
    unfold getE at m1
    simp only at m1
    have HN : numR bs p false = (v, p + k, false) := by unfold numR; simp only; rw [hd]
    rw [HN] at hle ⊢
    simp only at hle
    generalize hq : p + k = q at *
    have M1 := Lib.hid m1
    clear m1 hd h HN hq
    go_enter Tryz.func84, Tryz.ntmps84
    go_upto_region 1 with fail
    go_quiet ((exact quiet_same (M1.out _)))
    have HA := Lib.hid (H.out.at_.below (belowN w nq))
    have HGQ := Lib.hid (HD.out nq)
    generalize w.drewN nq = wq at *
    clear c0 c1 c2 f1 f2
    go_wp2_with fail
    refine (MR.out _ p bad false HA.out).mono ?_
    rintro e w2 ⟨rfl, ha2, hg2⟩
    have fz := ha2.f1
    have fc := ha2.c1
    have HF := Lib.hid (H.out.on (HGQ.out.trans (hg2.trans (g_cell w2 g 1 (.int .i64 (q : Int))))) (ha2.to q) hle)
    have HG2 := Lib.hid (HGQ.out.trans (hg2.trans (g_cell w2 g 1 (.int .i64 (q : Int)))))
    clear ha2 hg2 hle
    go_wp2
    go_ret
    exact ⟨rfl, HF.out, HG2.out⟩

set_option maxRecDepth 100000 in
theorem kcount_any (B g : Nat) (A : Option Addr) (len cap : Nat) (bs : List Nat) (w : World) (h : RB w B g A len cap bs 0 false) (y : Nat × Nat × Bool) (hy : numR bs 0 false = y) :
    Calls Tryz.prog 83 #[.pointer (some ⟨g, 0, none⟩), .int .u64 64] w fun e w' => e = .returned (.int .i64 (if 64 < y.1 then 0 else y.1 : Nat)) ∧ RB w' B g A len cap bs y.2.1 (y.2.2 || decide (64 < y.1)) ∧ w.grownBy w' (some g) := by
  have m1 := number_any B g A len cap bs 0 false w h
  unfold NumP at m1
  have hlt := (numR_le (bad := false) h.by_.1 h.le).2
  rw [hy] at m1 hlt
  obtain ⟨n, p, b⟩ := y
  simp only [Bool.false_or] at m1 hlt ⊢
  have M1 := Lib.hid m1
  have MR := Lib.hid (fun w p bad b h => refuse_any g (.slice A len cap) p bad b w h)
  by_cases h64 : 64 < n
  · rw [if_pos h64, decide_eq_true h64]
    have hi : (64 : Int) < (n : Int) := by omega
    clear m1 h64 h hy
    go_enter Tryz.func83, Tryz.ntmps83
    go_wp2_with fail
    refine M1.out.mono ?_
    rintro e w1 ⟨rfl, h1, hg1⟩
    have H1 := Lib.hid h1
    have HG1 := Lib.hid hg1
    clear h1 hg1
    go_wp2_with fail
    refine (MR.out _ p b true H1.out.at_).mono ?_
    rintro e w2 ⟨rfl, ha2, hg2⟩
    have HF := Lib.hid (H1.out.on hg2 ha2 H1.out.le)
    have HG2 := Lib.hid (HG1.out.trans hg2)
    clear ha2 hg2
    go_wp2
    go_ret
    exact ⟨rfl, HF.out, HG2.out⟩
  · rw [if_neg h64, decide_eq_false h64, Bool.or_false]
    have hi : ¬ (64 : Int) < (n : Int) := by omega
    have hw : IntKind.i64.wrap (n : Int) = (n : Int) := by rw [IntKind.wrap_i64]; omega
    clear m1 h64 h hy
    go_enter Tryz.func83, Tryz.ntmps83
    go_wp2_with fail
    refine M1.out.mono ?_
    rintro e w1 ⟨rfl, h1, hg1⟩
    have H1 := Lib.hid h1
    have HG1 := Lib.hid hg1
    clear h1 hg1
    go_wp2
    go_ret
    exact ⟨rfl, H1.out, HG1.out⟩

set_option maxRecDepth 100000 in
theorem done_any (B g : Nat) (A : Option Addr) (len cap : Nat) (bs : List Nat) (p : Nat) (bad : Bool) (w : World) (h : RB w B g A len cap bs p bad) :
    Calls Tryz.prog 86 #[.pointer (some ⟨g, 0, none⟩)] w fun e w' => e = .returned (.bool (!bad && decide (p = bs.length))) ∧ Below w.heap.size w w' := by
  obtain ⟨c0, c1, c2, f1, f2⟩ := h.at_
  have hl := h.ln
  cases bad with
  | true =>
    clear h
    go_enter Tryz.func86, Tryz.ntmps86
    go_upto_region 1 with fail
    go_quiet (fail)
    go_wp2
    go_ret
    exact ⟨rfl, belowN _ _⟩
  | false =>
    have hE : Hid ((!false && decide (p = bs.length)) = ((p : Int) == (len : Int))) := Lib.hid (by
      rw [hl, Bool.eq_iff_iff]
      simp
      omega)
    rw [hE.out]
    obtain ⟨b, hb⟩ : ∃ b, ((p : Int) == (len : Int)) = b := ⟨_, rfl⟩
    rw [hb]
    clear h hl hE
    cases b
    all_goals
      go_enter Tryz.func86, Tryz.ntmps86
      go_upto_region 1 with fail
      go_quiet (fail)
      go_wp2
      go_ret
      exact ⟨rfl, belowN _ _⟩

theorem above_any (a b : Int) (X : Nat) (w : World) (h : IntKind.u64.wrap (IntKind.u64.wrap a - IntKind.u64.wrap b) = (X : Int)) :
    Calls Tryz.prog 81 #[.int .i64 a, .int .i64 b] w fun e w' => e = .returned (.int .u64 (X : Int)) ∧ w = w' := by
  obtain ⟨U, hU⟩ : ∃ U, IntKind.u64.wrap a = U := ⟨_, rfl⟩
  obtain ⟨V, hV⟩ : ∃ V, IntKind.u64.wrap b = V := ⟨_, rfl⟩
  rw [hU, hV] at h
  go_enter Tryz.func81, Tryz.ntmps81
  go_wp2
  go_ret
  exact ⟨rfl, rfl⟩
end Go.Proofs.YtepancmkopifpaaGreatDoor
namespace Go.Proofs.YtepancmkopifpaaGreatDoor
open Go.RowKit
set_option linter.unusedVariables false

theorem grown_of {w w' : World} (h : Below w.heap.size w w') (row : Option Nat) : w.grownBy w' row := ⟨h.os, h.tape, h.output, h.size, fun k hk _ => h.block k hk⟩
/-- A row of bytes of the call's own, made from block base on. -/
def ownB (w : World) (base g cap : Nat) (d : List Nat) : Prop := w.ownsRow base 5 1 (.slice (some ⟨g, 0, none⟩) d.length cap) d.length (bytesV d)
def AddPost (base g : Nat) (d ns : List Nat) (w : World) (e : Ending) (w' : World) : Prop :=
  ∃ g' cap', e = .returned (.slice (some ⟨g', 0, none⟩) (d ++ bytesOf ns).length cap') ∧ ownB w' base g' cap' (d ++ bytesOf ns) ∧ w.grownBy w' (some g) ∧ (g' = g ∨ w.heap.size ≤ g')
theorem bytesOf_take {ns : List Nat} {k : Nat} (h : k < ns.length) : bytesOf (ns.take (k + 1)) = bytesOf (ns.take k) ++ enc (ns.getD k 0) := by
  rw [List.take_succ_eq_append_getElem h, bytesOf_app]
  simp [bytesOf, h]
structure AddInv (base g : Nat) (d ns : List Nat) (w wr : World) (k g' cap' L : Nat) : Prop where
  len : L = (d ++ bytesOf (ns.take k)).length
  own : ownB wr base g' cap' (d ++ bytesOf (ns.take k))
  grown : w.grownBy wr (some g)
  at_ : g' = g ∨ w.heap.size ≤ g'

set_option maxRecDepth 100000 in
set_option maxHeartbeats 1000000 in
theorem add_any (base g cap : Nat) (d : List Nat) (h c : Nat) (ns : List Nat) (w : World) (ho : ownB w base g cap d) (hn : ∀ n ∈ ns, n < 18446744073709551616)
    (hcell : ∀ j, j < ns.length → w.cell? ⟨h, j, none⟩ = some (.int .u64 ((ns.getD j 0 : Nat) : Int))) (hne : h ≠ g) (h0 : 0 < ns.length) (h8 : ns.length ≤ 8) (hd : d.length ≤ 5000) (hb : base ≤ w.heap.size) (hc : ns.length ≤ c) :
    Calls Tryz.prog 78 #[.slice (some ⟨g, 0, none⟩) d.length cap, .slice (some ⟨h, 0, none⟩) ns.length c] w (AddPost base g d ns w) := by
  obtain ⟨i0, hi0, hz0, hz1, hz2⟩ := info_parts Tryz.info5
  have HN := Lib.hid hn
  obtain ⟨m, hm⟩ : ∃ m, ns.length = m := ⟨_, rfl⟩
  rw [hm] at h0 h8 hc hcell ⊢
  have HCELL := Lib.hid hcell
  have HM := Lib.hid hm
  have HLT : Hid (h < w.heap.size) := Lib.hid (World.block_lt_of_cell? w _ (hcell 0 h0))
  have HBL : Hid (∀ k, (bytesOf (ns.take k)).length ≤ 80) := Lib.hid (fun k => by
    have := bytesOf_len (ns.take k) (fun n hn2 => hn n (List.mem_of_mem_take hn2))
    have h2 : (ns.take k).length ≤ ns.length := by rw [List.length_take]; omega
    omega)
  have HST : Hid (AddInv base g d ns w w 0 g cap d.length) := Lib.hid ⟨by simp [bytesOf], by simpa [bytesOf] using ho, ⟨rfl, rfl, rfl, Nat.le_refl _, fun _ _ _ => rfl⟩, .inl rfl⟩
  have m64 : (m : Int) ≤ 8 := by omega
  clear hn hcell hm ho
  obtain ⟨L0, hL0⟩ : ∃ L0, d.length = L0 := ⟨_, rfl⟩
  rw [hL0] at HST hd ⊢
  have HL0 := Lib.hid hL0
  clear hL0
  go_enter Tryz.func78, Tryz.ntmps78
  go_wp2
  go_loopw [0, 9] (fun s0 s9 wr => ∃ (k g' cap' L : Nat), k ≤ m ∧ s9 = .int .i64 (k : Int) ∧ s0 = .slice (some ⟨g', 0, none⟩) L cap' ∧ Hid (AddInv base g d ns w wr k g' cap' L)) (fun _ s9 _ => m - (intOf s9).toNat)
  case atStart => exact ⟨0, g, cap, L0, by omega, rfl, rfl, HST⟩
  case round =>
    clear HST
    obtain ⟨k, g', cap', L, hk, rfl, rfl, HI⟩ := hrel
    by_cases hlt : k < m
    · have i1 : (k : Int) < (m : Int) := by omega
      have i2 : (0 : Int) ≤ (k : Int) := by omega
      have hl80 := HBL.out k
      have hLe : L ≤ 5080 := by
        have e := HI.out.len
        have e2 := HL0.out
        rw [List.length_append] at e
        omega
      have hcl : wr.cell? ⟨h, k, none⟩ = some (.int .u64 ((ns.getD k 0 : Nat) : Int)) := by
        rw [HI.out.grown.cell_far ⟨h, k, none⟩ HLT.out (fun e => by injection e with e; exact hne e)]
        exact HCELL.out k hlt
      have hN : ns.getD k 0 < 18446744073709551616 := HN.out _ (getD_mem (by rw [HM.out]; exact hlt))
      have HNX : Hid (∀ wa g2 cap2, ownB wa base g2 cap2 ((d ++ bytesOf (ns.take k)) ++ enc (ns.getD k 0)) → w.grownBy wa (some g) → (g2 = g ∨ w.heap.size ≤ g2) → AddInv base g d ns w wa (k + 1) g2 cap2 (L + (enc (ns.getD k 0)).length)) := Lib.hid (fun wa g2 cap2 h1 h2 h3 => by
        have e := bytesOf_take (ns := ns) (k := k) (by rw [HM.out]; exact hlt)
        refine ⟨?_, ?_, h2, h3⟩
        · rw [e, HI.out.len]
          simp only [List.length_append]
          omega
        · rw [e, ← List.append_assoc]
          exact h1)
      have MP := Lib.hid (fun w => put_any (ns.getD k 0) w hN)
      have hel := enc_len_le hN
      have hen := enc_ne (ns.getD k 0)
      generalize ns.getD k 0 = N at *
      have HD := Lib.hid HI.out.len
      have HOWN := Lib.hid HI.out.own
      have HGR := Lib.hid HI.out.grown
      have HAT := Lib.hid HI.out.at_
      generalize d ++ bytesOf (ns.take k) = D at *
      obtain ⟨E, hE⟩ : ∃ E, (enc N).length = E := ⟨_, rfl⟩
      rw [hE] at hel hen HNX
      clear hN hl80 HI
      go_wp2_with fail
      refine (MP.out _).mono ?_
      rintro e w1 ⟨gp, capp, rfl, hown1, hb1⟩
      rw [hE] at hown1 ⊢
      have HB1 := Lib.hid hb1
      have hsrc := (Bytes.own hown1 (enc_byte N)).1
      have HSRC : Hid (∀ j u, (bytesV (enc N))[j]? = some u → w1.cell? ((⟨gp, 0, none⟩ : Addr).add j) = some u) := Lib.hid (fun j u hj => by
        have hj2 : j < (enc N).length := by
          have := (List.getElem?_eq_some_iff.1 hj).1
          rwa [bytesV_length] at this
        rw [bytesV_get _ _ hj2] at hj
        injection hj with hj
        obtain ⟨ad, e, hcc⟩ := hsrc.2 (by omega)
        injection e with e
        subst e
        rw [← hj]
        exact hcc j hj2)
      have HO1 : Hid (w1.ownsRow base 5 1 (.slice (some ⟨g', 0, none⟩) L cap') L (bytesV D)) := Lib.hid (by
        have := HOWN.out
        unfold ownB at this
        rw [← HD.out] at this
        exact this.kept (row := none) (grown_of hb1 none) (Or.inr (by simp [Value.ownBlock])))
      have hsz : base ≤ w1.heap.size := Nat.le_trans hb (Nat.le_trans HGR.out.size hb1.size)
      have HLEN : Hid ((bytesV (enc N)).length = E * 1) := Lib.hid (by rw [bytesV_length, hE]; omega)
      clear hb1 hown1 hsrc hcl
      go_wp2_with (at_builtin; refine wpList_append_lies _ rfl _ _ 26 rfl base 5 i0 (.int .u8 0) 1 1 Tryz.underlying26 hi0 hz0 hz1 hz2 rfl (by decide) (.slice (some ⟨g', 0, none⟩) L cap') L (bytesV D) rfl HO1.out ⟨gp, 0, none⟩ E capp (bytesV (enc N)) rfl HLEN.out HSRC.out (bytesV_one _) hen ?c3 ?c4 hsz w1.heap.size rfl ?_)
      case c3 => unfold maxLen; omega
      case c4 => omega
      intro g2 cap2 wa hown2 hgrow hat hlt2
      have HN2 : Hid (AddInv base g d ns w wa (k + 1) g2 cap2 (L + E)) := Lib.hid (by
        have hg1 : w.grownBy w1 (some g) := HGR.out.trans (grown_of HB1.out _)
        refine HNX.out wa g2 cap2 ?_ ?_ ?_
        · unfold ownB
          rw [bytesV_append, List.length_append, hE, ← HD.out]
          exact hown2
        · refine grown_then hg1 hgrow (fun j e => ?_)
          simp only [Value.ownBlock, Option.some.injEq] at e
          subst e
          rcases HAT.out with e | e
          · exact .inr (by rw [e])
          · exact .inl e
        · rcases hat with e | e
          · simp only [Value.ownBlock, Option.some.injEq] at e
            subst e
            exact HAT.out
          · exact .inr (by rw [e]; exact hg1.size))
      clear hown2 hgrow hat hlt2
      go_wp2
      go_roundw
      case rel => exact ⟨k + 1, g2, cap2, L + E, by omega, by go_num, rfl, HN2⟩
      case measure => simp [intOf]; omega
    · obtain rfl : k = m := by omega
      have HF : Hid (AddPost base g d ns w (.returned (.slice (some ⟨g', 0, none⟩) L cap')) wr) := Lib.hid (by
        have e : ns.take k = ns := List.take_of_length_le (Nat.le_of_eq HM.out)
        have h1 := HI.out.len
        have h2 := HI.out.own
        rw [e] at h1 h2
        exact ⟨g', cap', by rw [h1], h2, HI.out.grown, HI.out.at_⟩)
      go_wp2
      go_ret
      exact HF.out
end Go.Proofs.YtepancmkopifpaaGreatDoor
