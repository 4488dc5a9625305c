/-
  The landed block's GetAggs: what it returns of every row of bytes; nothing that was there is written.
  The landed block's GetAggs: what it returns of every row of bytes; nothing that was there is written.
-/
import Derived.Test.YtepancmkopifpaaGreatDoorKAgg
import Derived.Test.YtepancmkopifpaaGreatDoorKGetW
import Derived.Test.YtepancmkopifpaaGreatDoorBRGetA
namespace Go.Proofs.YtepancmkopifpaaGreatDoor
open Go.RowKit
attribute [local go_sem ↓] Go.wp_at_zero Go.wp_at_succ
set_option linter.unusedVariables false

theorem kAg_bad (bs : List Nat) (fr : Int) (p : Nat) (bad : Bool) : kAg bs fr p bad = ((kAg bs fr p false).1, (kAg bs fr p false).2.1, bad || (kAg bs fr p false).2.2) := by
  unfold kAg
  simp only
  split
  · simp [Bool.or_assoc]
  · simp [Bool.or_assoc]
theorem kaMore_num (bs : List Nat) (fr : Int) (p : Nat) : kaMore fr (bs.drop p) = if (kAg bs fr p false).2.2 then none else some ((kAg bs fr p false).1, bs.drop (kAg bs fr p false).2.1) := by
  unfold kaMore kAg
  rw [rd_num]
  obtain ⟨c, q1, b1, e1⟩ : ∃ a q b, numR bs p false = (a, q, b) := ⟨_, _, _, rfl⟩
  obtain ⟨m, q2, b2, e2⟩ : ∃ a q b, numR bs q1 false = (a, q, b) := ⟨_, _, _, rfl⟩
  obtain ⟨x, q3, b3, e3⟩ : ∃ a q b, numR bs q2 false = (a, q, b) := ⟨_, _, _, rfl⟩
  obtain ⟨s, q4, b4, e4⟩ : ∃ a q b, numR bs q3 false = (a, q, b) := ⟨_, _, _, rfl⟩
  obtain ⟨i, q5, b5, e5⟩ : ∃ a q b, numR bs q4 false = (a, q, b) := ⟨_, _, _, rfl⟩
  obtain ⟨j, q6, b6, e6⟩ : ∃ a q b, numR bs q5 false = (a, q, b) := ⟨_, _, _, rfl⟩
  simp only [e1, e2, e3, e4, e5, e6, Bool.false_or]
  cases b1 with
  | true =>
    simp only [if_true, Bool.true_or]
    split <;> rfl
  | false =>
    simp only [Bool.false_eq_true, if_false, rd_num, e2, Bool.false_or]
    cases b2 with
    | true =>
      simp only [if_true, Bool.true_or]
      split <;> rfl
    | false =>
      simp only [Bool.false_eq_true, if_false, rd_num, e3, Bool.false_or]
      split
      · rfl
      · cases b3 with
        | true => simp
        | false =>
          simp only [Bool.false_eq_true, if_false, rd_num, e4, Bool.false_or]
          cases b4 with
          | true => simp
          | false =>
            simp only [Bool.false_eq_true, if_false, rd_num, e5, Bool.false_or]
            cases b5 with
            | true => simp
            | false =>
              simp only [Bool.false_eq_true, if_false, rd_num, e6, Bool.false_or]
              cases b6 <;> simp
theorem kaOn_step {bs : List Nat} {W n i p q f q1 : Nat} {b1 : Bool} {fr : Int} {y : Ag × Nat × Bool} (hi : i < n) (e1 : numR bs q false = (f, q1, b1)) (hfr : ¬ 1099511627776 / W < (p + f) % 18446744073709551616 → fr = (((p + f) % 18446744073709551616 * W : Nat) : Int))
    (hy : kAg bs fr q1 (b1 || decide (1099511627776 / W < (p + f) % 18446744073709551616)) = y) :
    kaOn W (n - i) p (bs.drop q) = if y.2.2 then none else (kaOn W (n - (i + 1)) ((p + f) % 18446744073709551616 + 1) (bs.drop y.2.1)).map fun z => (y.1 :: z.1, z.2) := by
  obtain ⟨m, hm⟩ : ∃ m, n - i = m + 1 := ⟨n - (i + 1), by omega⟩
  have hm2 : n - (i + 1) = m := by omega
  rw [kAg_bad] at hy
  rw [hm, hm2, kaOn, rd_num, e1]
  simp only
  cases b1 with
  | true => rw [← hy]; rfl
  | false =>
    simp only [Bool.false_eq_true, if_false]
    by_cases hb : 1099511627776 / W < (p + f) % 18446744073709551616
    · rw [if_pos hb, ← hy, decide_eq_true hb]
      rfl
    · rw [if_neg hb, ← hfr hb, kaMore_num]
      rw [decide_eq_false hb] at hy
      simp only [Bool.or_false, Bool.false_or] at hy
      rw [← hy]
      cases (kAg bs fr q1 false).2.2 with
      | true => rfl
      | false =>
        simp only [Bool.false_eq_true, if_false]
        cases kaOn W m ((p + f) % 18446744073709551616 + 1) (bs.drop (kAg bs fr q1 false).2.1) <;> rfl
theorem kaAll_num {bs : List Nat} {W n p : Nat} {b : Bool} (e : numR bs 0 false = (n, p, b)) : kaAll W bs = if b || decide (64 < n) then none else kaOn W n 0 (bs.drop p) := by
  have h : rd bs = if b then none else some (n, bs.drop p) := by
    have := rd_num (bs := bs) (p := 0)
    rw [e] at this
    simpa using this
  unfold kaAll
  rw [h]
  cases b with
  | true => simp
  | false =>
    by_cases h64 : 64 < n
    · simp [h64]
    · simp [h64]
theorem getA_none {bs : List Nat} {k : Int} {W : Nat} (hk : coarse k) (hW : wid k = (W : Int)) (hb : ∀ c ∈ bs, c < 256) (h : kaAll W bs = none) : getA (wid k) bs = none := by rw [kaAll_says hk hW hb, h]
theorem getA_of {bs : List Nat} {k : Int} {W : Nat} {l : List Ag} {p : Nat} (hk : coarse k) (hW : wid k = (W : Int)) (hb : ∀ c ∈ bs, c < 256) (hp : p ≤ bs.length) (h : kaAll W bs = some (l, bs.drop p)) : getA (wid k) bs = if p = bs.length ∧ Align l k then some l else none := by
  rw [kaAll_says hk hW hb, h]
  by_cases e : p = bs.length
  · have : bs.drop p = [] := by rw [e]; simp
    rw [this]
    simp [e]
  · rw [if_neg (fun h => e h.1)]
    rcases hd : bs.drop p with _ | ⟨x, r⟩
    · have := congrArg List.length hd
      simp at this
      omega
    · rfl
theorem kAg_in {bs : List Nat} {fr : Int} {p : Nat} {bad : Bool} (hb : ∀ c ∈ bs, c < 256) (hp : p ≤ bs.length) (hf : In64 fr) : (kAg bs fr p bad).1.ok ∧ (kAg bs fr p bad).2.1 ≤ bs.length := by
  unfold kAg
  simp only
  have n1 := numR_le (bad := false) hb hp
  generalize numR bs p false = y1 at *
  have n2 := numR_le (bad := false) hb n1.1
  generalize numR bs y1.2.1 false = y2 at *
  have n3 := numR_le (bad := false) hb n2.1
  generalize numR bs y2.2.1 false = y3 at *
  have n4 := numR_le (bad := false) hb n3.1
  generalize numR bs y3.2.1 false = y4 at *
  have n5 := numR_le (bad := false) hb n4.1
  generalize numR bs y4.2.1 false = y5 at *
  have n6 := numR_le (bad := false) hb n5.1
  generalize numR bs y5.2.1 false = y6 at *
  have z2 : In64 (zag (y2.1 : Int)) := zag_range _ (by omega) (by omega)
  have z4 : In64 (zag (y4.1 : Int)) := zag_range _ (by omega) (by omega)
  split
  · exact ⟨⟨hf, by unfold Ag.one In64; simp only; omega, z2, z2, z2, z2, z2⟩, n2.1⟩
  · exact ⟨⟨hf, w64_in _, z4, z2, w64_in _, w64_in _, w64_in _⟩, n6.1⟩

/-- Amid a round: the reader, the row of the call's own. -/
structure KNMid (w wr : World) (gR : Nat) (A : Option Addr) (len cap : Nat) (bs : List Nat) (p : Nat) (bad : Bool) (V : Value) (out : List Ag) : Prop where
  pos : RB wr w.heap.size gR A len cap bs p bad
  own : wr.ownsRow w.heap.size 50 7 V out.length (aggV out)
  below : Below w.heap.size w wr
  ap : ∀ k, V.ownBlock = some k → k ≠ gR
section
variable {w wr w' : World} {gR : Nat} {A : Option Addr} {len cap : Nat} {bs : List Nat} {p q : Nat} {bad b : Bool} {V : Value} {out : List Ag}
theorem own7_grown {base n : Nat} {xs : List Value} {row : Option Nat} (h : wr.ownsRow base 50 7 V n xs) (hg : wr.grownBy w' row) (hne : ∀ k, V.ownBlock = some k → some k ≠ row) : w'.ownsRow base 50 7 V n xs :=
  h.kept hg (by
    rcases e : V.ownBlock with _ | k
    · exact .inl rfl
    · exact .inr (hne k e))
theorem KNMid.num (h : KNMid w wr gR A len cap bs p bad V out) (hr : RB w' w.heap.size gR A len cap bs q b) (hg : wr.grownBy w' (some gR)) : KNMid w w' gR A len cap bs q b V out :=
  ⟨hr, own7_grown h.own hg (fun k e e2 => h.ap k e (by injection e2)), h.below.grown hg h.below.size (fun k e => by injection e with e; subst e; exact h.pos.base), h.ap⟩
theorem KNMid.all (h : KNMid w wr gR A len cap bs p bad V out) (o : Obj) : KNMid w (wr.alloc o) gR A len cap bs p bad V out :=
  ⟨h.pos.grown (g_all wr o none) (by simp) (fun k e => by cases e), own7_grown h.own (g_all wr o none) (fun k _ => by simp), past_alloc h.below o, h.ap⟩
/-- Behind an append. -/
theorem KNMid.app (h : KNMid w wr gR A len cap bs p bad V out) {o : Obj} {g2 cap2 : Nat} {x : Ag} (hown : w'.ownsRow w.heap.size 50 7 (.slice (some ⟨g2, 0, none⟩) (out.length + 1) cap2) (out.length + 1) (aggV out ++ x.cells)) (hg : (wr.alloc o).grownBy w' V.ownBlock)
    (hat : V.ownBlock = some g2 ∨ g2 = (wr.alloc o).heap.size) : KNMid w w' gR A len cap bs p bad (.slice (some ⟨g2, 0, none⟩) (out.length + 1) cap2) (out ++ [x]) := by
  have hf : ∀ k, V.ownBlock = some k → w.heap.size ≤ k := fun k e => (h.own.lt k e).1
  have hsz : wr.heap.size ≤ (wr.alloc o).heap.size := by simp
  have h1 := h.all o
  refine ⟨h1.pos.grown hg (fun e => h.ap gR e.symm rfl) hf, ?_, h1.below.grown hg h1.below.size hf, ?_⟩
  · rw [aggV_append, aggV_one, List.length_append]
    exact hown
  · intro k e
    simp only [Value.ownBlock, Option.some.injEq] at e
    subst e
    rcases hat with e | e
    · exact h.ap _ e
    · have := h.pos.at_.lt
      omega
end
structure KNInv (w wr : World) (gR : Nat) (A : Option Addr) (len cap : Nat) (bs : List Nat) (W : Nat) (R : Option (List Ag × List Nat)) (n i : Nat) (lt p : Nat) (bad : Bool) (V : Value) (out : List Ag) : Prop where
  mid : KNMid w wr gR A len cap bs p bad V out
  ok : ∀ a ∈ out, a.ok
  len_ : out.length = i
  lo : lt ≤ 1099511627777
  says : bad = false → R = (kaOn W (n - i) lt (bs.drop p)).map fun y => (out ++ y.1, y.2)
  wrong : bad = true → R = none ∧ n = 0
end Go.Proofs.YtepancmkopifpaaGreatDoor
namespace Go.Proofs.YtepancmkopifpaaGreatDoor
open Go.RowKit
attribute [local go_sem ↓] Go.wp_at_zero Go.wp_at_succ
set_option linter.unusedVariables false

set_option maxRecDepth 100000 in
set_option maxHeartbeats 4000000 in
theorem kgeta_in (A : Option Addr) (len cap : Nat) (bs : List Nat) (k : Int) (w : World) (hl : bs.length = len) (hB : Bytes w A bs) (hc : len ≤ cap) (hm : cap ≤ maxLen) (hk : coarse k) (hw : Wid w) :
    Calls Tryz.prog 63 #[.slice A len cap, .int .i64 k] w (GetAPost w (getA (wid k) bs)) := by
  obtain ⟨i0, hi0, hz0, hz1, hz2⟩ := info_parts Tryz.info50
  have HBY := Lib.hid hB.1
  have hkk : In64 k := by unfold coarse at hk; unfold In64; omega
  have HM0 : Hid (KNMid w (w.alloc (.cells #[.slice A len cap, .int .i64 0, .bool false] 111)) w.heap.size A len cap bs 0 false (.slice none 0 0) []) := Lib.hid (by
    have hB2 : Below w.heap.size w (w.alloc (.cells #[.slice A len cap, .int .i64 0, .bool false] 111)) := past_alloc (Below.refl _ _) _
    refine ⟨⟨?_, hB.below hB2, hl, hc, hm, fun hp ad e => ?_, Nat.le_refl _, Nat.zero_le _⟩, World.ownsRow_nil _ _ _ _, hB2, fun k e => by cases e⟩
    · constructor <;> simp
    · obtain ⟨ad', e', hcc⟩ := hB.2 hp
      rw [e] at e'
      injection e' with e'
      subst e'
      have := World.block_lt_of_cell? w _ (hcc 0 hp)
      have e3 : (ad.add 0).block = ad.block := by unfold Addr.add; split <;> rfl
      omega)
  have HWD : Hid (∀ w', Below w.heap.size w w' → Wid w') := Lib.hid (fun w' h => hw.below h)
  obtain ⟨W, hW⟩ : ∃ W : Nat, wid k = (W : Int) := ⟨(wid k).toNat, by have := wid_bounds k; omega⟩
  have HW3 : Hid (W = 5 ∨ W = 60 ∨ W = 1440) := Lib.hid (by have := wid_three hk; omega)
  obtain ⟨N, p0, b0, e0⟩ : ∃ N p b, numR bs 0 false = (N, p, b) := ⟨_, _, _, rfl⟩
  have hN := (numR_le (bs := bs) (p := 0) (bad := false) hB.1 (Nat.zero_le _)).2
  rw [e0] at hN
  have MC : Hid (∀ B g w, RB w B g A len cap bs 0 false → Calls Tryz.prog 83 #[.pointer (some ⟨g, 0, none⟩), .int .u64 64] w fun e w' => e = .returned (.int .i64 (if 64 < N then 0 else N : Nat)) ∧ RB w' B g A len cap bs p0 (b0 || decide (64 < N)) ∧ w.grownBy w' (some g)) := Lib.hid (fun B g w h => kcount_any B g A len cap bs w h _ e0)
  have HR := Lib.hid (kaAll_num (W := W) e0)
  have HN0 := Lib.hid (fun h => numR_bad e0 h)
  have MN := Lib.hid (fun B g p bad w h => number_any B g A len cap bs p bad w h)
  have MD := Lib.hid (fun B g p bad w h => done_any B g A len cap bs p bad w h)
  have MA := Lib.hid (fun B g fr p bad w h hf => agg_any B g A len cap bs fr p bad w h hf)
  have MR := Lib.hid (fun g p bad b w h => refuse_any g (.slice A len cap) p bad b w h)
  have mw := fun w hw => width_any k w hkk hw
  have HGN := Lib.hid (fun h => getA_none hk hW hB.1 h)
  have HGO := Lib.hid (fun l p hp h => getA_of (l := l) (p := p) hk hW hB.1 hp h)
  have HKK := Lib.hid hkk
  have hk1 : ¬ k < 1 := by unfold coarse at hk; omega
  have hk4 : ¬ 4 ≤ k := by unfold coarse at hk; omega
  generalize kaAll W bs = R at *
  generalize getA (wid k) bs = G at *
  rw [hW] at mw
  have MW := Lib.hid mw
  have hWu : IntKind.u64.wrap (W : Int) = (W : Int) := by rw [IntKind.wrap_u64]; have := HW3.out; omega
  clear e0 hB hl mw hw hW hkk hk
  go_enter Tryz.func63, Tryz.ntmps63
  go_wp2
  go_step3
  go_wp2_with fail
  refine (MW.out _ (HWD.out _ HM0.out.below)).mono ?_
  rintro e w0 ⟨rfl, rfl⟩
  go_wp2
  go_step3
  go_wp2_with fail
  refine (MC.out _ _ _ HM0.out.pos).mono ?_
  rintro e w1 ⟨rfl, hr1, hg1⟩
  have HM1 := Lib.hid (HM0.out.num hr1 hg1)
  obtain ⟨n, hn⟩ : ∃ n, (if 64 < N then 0 else N) = n := ⟨_, rfl⟩
  have hn64 : n ≤ 64 := by rw [← hn]; split <;> omega
  rw [hn]
  obtain ⟨b1, hb1⟩ : ∃ b1, (b0 || decide (64 < N)) = b1 := ⟨_, rfl⟩
  rw [hb1] at HM1 HR
  have HST : Hid (KNInv w w1 w.heap.size A len cap bs W R n 0 0 p0 b1 (.slice none 0 0) []) := Lib.hid (by
    refine ⟨HM1.out, fun _ h => by simp at h, rfl, by omega, fun e => ?_, fun e => ?_⟩
    · rw [HR.out, e]
      subst hb1
      simp only [Bool.or_eq_false_iff, decide_eq_false_iff_not] at e
      rw [if_neg e.2] at hn
      subst hn
      simp only [Bool.false_eq_true, if_false, Nat.sub_zero]
      cases kaOn W N 0 (bs.drop p0) <;> rfl
    · rw [HR.out, e]
      refine ⟨rfl, ?_⟩
      subst hb1
      simp only [Bool.or_eq_true, decide_eq_true_eq] at e
      rw [← hn]
      split
      · rfl
      · rcases e with e | e
        · exact HN0.out e
        · omega)
  clear hr1 hg1 HM0 HM1 hn hb1 HR HN0 hN MC
  generalize hgR : w.heap.size = gR at *
  have HGR := Lib.hid hgR
  clear hgR
  go_wp2
  go_loopw [7, 9, 24] (fun s7 s9 s24 wr => ∃ (i p lt : Nat) (bad : Bool) (out : List Ag), i ≤ n ∧ s9 = .int .u64 (lt : Int) ∧ s24 = .int .i64 (i : Int) ∧ Hid (KNInv w wr gR A len cap bs W R n i lt p bad s7 out)) (fun _ _ s24 _ => n - (intOf s24).toNat)
  case atStart => exact ⟨0, p0, 0, b1, [], by omega, rfl, rfl, HST⟩
  case round =>
    clear HST
    obtain ⟨i, p, lt, bad, out, hi, rfl, rfl, HI⟩ := hrel
    by_cases hlt : i < n
    · have hbad : bad = false := by
        cases bad
        · rfl
        · have := (HI.out.wrong rfl).2
          omega
      subst hbad
      have i1 : (i : Int) < (n : Int) := by omega
      obtain ⟨f, q1, b1, e1⟩ : ∃ a q b, numR bs p false = (a, q, b) := ⟨_, _, _, rfl⟩
      have hle := HI.out.mid.pos.le
      have hlo := HI.out.lo
      have l1 := numR_le (bad := false) HBY.out hle
      rw [e1] at l1
      simp only at l1
      have M1 : Hid (∀ B wx, RB wx B gR A len cap bs p false → Calls Tryz.prog 84 #[.pointer (some ⟨gR, 0, none⟩)] wx fun e w' => e = .returned (.int .u64 (f : Int)) ∧ RB w' B gR A len cap bs q1 b1 ∧ wx.grownBy w' (some gR)) := Lib.hid (fun B wx h => by
        have := MN.out B gR p false wx h
        unfold NumP at this
        rw [e1] at this
        exact this)
      obtain ⟨PL, hPL⟩ : ∃ PL, (lt + f) % 18446744073709551616 = PL := ⟨_, rfl⟩
      have hPLw : IntKind.u64.wrap ((lt : Int) + (f : Int)) = (PL : Int) := by rw [IntKind.wrap_u64]; omega
      obtain ⟨Q, hQ⟩ : ∃ Q, 1099511627776 / W = Q := ⟨_, rfl⟩
      have hQw : IntKind.u64.wrap ((1099511627776 : Int).tdiv (W : Int)) = (Q : Int) := by
        rw [← hQ, Int.tdiv_eq_ediv_of_nonneg (by omega), IntKind.wrap_u64]
        rcases HW3.out with e | e | e <;> rw [e] <;> rfl
      have hW0 : ¬ (W : Int) = 0 := by have := HW3.out; omega
      obtain ⟨U, hU⟩ : ∃ U, IntKind.u64.wrap ((PL : Int) * (W : Int)) = U := ⟨_, rfl⟩
      obtain ⟨fr, hfr⟩ : ∃ fr, IntKind.i64.wrap U = fr := ⟨_, rfl⟩
      have hfrI : In64 fr := by rw [← hfr, IntKind.wrap_i64]; unfold In64; omega
      have hfrP : ¬ 1099511627776 / W < (lt + f) % 18446744073709551616 → fr = (((lt + f) % 18446744073709551616 * W : Nat) : Int) := by
        rw [hQ, hPL, ← hfr, ← hU, IntKind.wrap_i64, IntKind.wrap_u64, ← hQ]
        intro h
        rcases HW3.out with e | e | e <;> subst e <;> omega
      have hD : decide (Q < PL) = decide (1099511627776 / W < (lt + f) % 18446744073709551616) := by
        rw [hQ, hPL]
      obtain ⟨⟨⟨fr2, cn, sm, mn, mx, fi, la⟩, q2, BB⟩, hy⟩ : ∃ y, kAg bs fr q1 (b1 || decide (1099511627776 / W < (lt + f) % 18446744073709551616)) = y := ⟨_, rfl⟩
      have HOK := kAg_in (bad := (b1 || decide (1099511627776 / W < (lt + f) % 18446744073709551616))) HBY.out l1.1 hfrI
      rw [hy] at HOK
      have HLEFT := Lib.hid (kg_next (b := BB) (HI.out.says rfl) (kaOn_step hlt e1 hfrP hy))
      rw [hPL] at HLEFT
      rw [← hD] at hy
      have hPLb : BB = false → PL ≤ 1099511627776 := fun e => by
        by_cases hbig : Q < PL
        · rw [kAg_bad, decide_eq_true hbig, Bool.or_true, Bool.true_or, e] at hy
          simp at hy
        · have : Q ≤ 1099511627776 := by rw [← hQ]; exact Nat.div_le_self _ _
          omega
      have M4 : Hid (∀ B wx, RB wx B gR A len cap bs q1 (b1 || decide (Q < PL)) → Calls Tryz.prog 88 #[.pointer (some ⟨gR, 0, none⟩), .int .i64 fr] wx fun e w' => e = .returned (.agg #[.int .i64 fr2, .int .i64 cn, .int .i64 sm, .int .i64 mn, .int .i64 mx, .int .i64 fi, .int .i64 la]) ∧ RB w' B gR A len cap bs q2 BB ∧ wx.grownBy w' (some gR)) := Lib.hid (fun B wx h => by
        have := MA.out B gR fr q1 _ wx h hfrI
        unfold AgP at this
        rw [hy] at this
        exact this)
      have HOKK := Lib.hid HOK.1
      have HPLB := Lib.hid hPLb
      have HOL := Lib.hid HI.out.len_
      have hlo2 : out.length ≤ 64 := by have := HI.out.len_; omega
      have HM := Lib.hid HI.out.mid
      clear e1 hfrP hy hD hPL hQ HOK hPLb hfrI l1 hle hlo
      go_wp2_with fail
      refine (M1.out _ _ HM.out.pos).mono ?_
      rintro e w2 ⟨rfl, hr2, hg2⟩
      have HM2 := Lib.hid (HM.out.num hr2 hg2)
      clear hr2 hg2 HM
      go_wp2_with fail
      refine (MR.out gR q1 b1 _ _ HM2.out.pos.at_).mono ?_
      rintro e w3 ⟨rfl, ha3, hg3⟩
      have HM3 := Lib.hid (HM2.out.num (HM2.out.pos.on hg3 ha3 HM2.out.pos.le) hg3)
      clear ha3 hg3 HM2 hPLw hQw
      go_wp2_with fail
      refine (M4.out _ _ HM3.out.pos).mono ?_
      rintro e w4 ⟨rfl, hr4, hg4⟩
      have HM4 := Lib.hid (HM3.out.num hr4 hg4)
      have HM5 := Lib.hid (HM4.out.all (.cells #[.int .i64 fr2, .int .i64 cn, .int .i64 sm, .int .i64 mn, .int .i64 mx, .int .i64 fi, .int .i64 la] 50))
      have HH : Hid (Holds (w4.alloc (.cells #[.int .i64 fr2, .int .i64 cn, .int .i64 sm, .int .i64 mn, .int .i64 mx, .int .i64 fi, .int .i64 la] 50)) w4.heap.size ⟨fr2, cn, sm, mn, mx, fi, la⟩) := Lib.hid (by unfold Holds; simp)
      clear hr4 hg4 HM3 HM4 hU hfr
      go_upto_region 12 with fail
      generalize w4.alloc (.cells #[.int .i64 fr2, .int .i64 cn, .int .i64 sm, .int .i64 mn, .int .i64 mx, .int .i64 fi, .int .i64 la] 50) = w5 at *
      generalize w4.heap.size = gA at *
      have cw := HM5.out.pos.at_.c2
      cases BB with
      | true =>
        have HE := Lib.hid (HGN.out (HLEFT.out.2 rfl))
        go_wp2_with fail
        refine (MD.out _ _ _ _ _ HM5.out.pos).mono ?_
        rintro e w6 ⟨rfl, hb6⟩
        have HQ : Hid (GetAPost w G (.returned (.tuple #[.slice none 0 0, .int .i64 2])) w6) := Lib.hid (by rw [HE.out]; exact ⟨rfl, past HM5.out.below hb6⟩)
        clear hb6
        go_wp2
        (try rw [Exit.noGoto_ret])
        go_ret2
        exact HQ.out
      | false =>
        have HR2 := Lib.hid (HLEFT.out.1 rfl)
        have hPb := HPLB.out rfl
        have hP1 : IntKind.u64.wrap ((PL : Int) + 1) = ((PL + 1 : Nat) : Int) := by rw [IntKind.wrap_u64]; omega
        obtain ⟨h0, h1, h2, h3, h4, h5, h6⟩ := HH.out
        simp only at h0 h1 h2 h3 h4 h5 h6
        have HO : Hid ((w5.alloc (.cells #[.int .i64 fr2, .int .i64 cn, .int .i64 sm, .int .i64 mn, .int .i64 mx, .int .i64 fi, .int .i64 la] 50)).ownsRow w.heap.size 50 7 u7 out.length (aggV out)) := Lib.hid (own7_grown HM5.out.own (g_all _ _ none) (fun k _ => by simp))
        have HNW : Hid (∀ j u, (Ag.cells ⟨fr2, cn, sm, mn, mx, fi, la⟩)[j]? = some u → (w5.alloc (.cells #[.int .i64 fr2, .int .i64 cn, .int .i64 sm, .int .i64 mn, .int .i64 mx, .int .i64 fi, .int .i64 la] 50)).cell? ((⟨w5.heap.size, 0, none⟩ : Addr).add j) = some u) := Lib.hid (Holds.news (Holds.new w5 ⟨fr2, cn, sm, mn, mx, fi, la⟩))
        have hsz := HM5.out.below.size
        go_wp2_with (at_builtin; refine wpList_append_lies _ rfl _ _ 23 rfl w.heap.size 50 i0 (.agg #[.int .i64 0, .int .i64 0, .int .i64 0, .int .i64 0, .int .i64 0, .int .i64 0, .int .i64 0]) 7 56 Tryz.underlying23 hi0 hz0 hz1 hz2 rfl (by decide) u7 out.length (aggV out) rfl HO.out ⟨w5.heap.size, 0, none⟩ 1 1 (Ag.cells ⟨fr2, cn, sm, mn, mx, fi, la⟩) rfl rfl HNW.out (cells_one _) (by decide) ?c3 ?c4 ?c5 (w5.alloc (.cells #[.int .i64 fr2, .int .i64 cn, .int .i64 sm, .int .i64 mn, .int .i64 mx, .int .i64 fi, .int .i64 la] 50)).heap.size rfl ?_)
        case c3 => unfold maxLen; omega
        case c4 => omega
        case c5 => (try simp); omega
        intro g2 cap2 wa hown hgrow hat hltg
        have HN : Hid (KNInv w wa gR A len cap bs W R n (i + 1) (PL + 1) q2 false (.slice (some ⟨g2, 0, none⟩) (out.length + 1) cap2) (out ++ [⟨fr2, cn, sm, mn, mx, fi, la⟩])) := Lib.hid ⟨HM5.out.app (x := ⟨fr2, cn, sm, mn, mx, fi, la⟩) hown hgrow (by simpa using hat), by
          intro y hy
          rw [List.mem_append, List.mem_singleton] at hy
          rcases hy with hy | rfl
          · exact HI.out.ok y hy
          · exact HOKK.out, by rw [List.length_append, HOL.out]; rfl, by omega, fun _ => HR2.out, fun h => (by cases h)⟩
        clear hown hgrow hat hltg h0 h1 h2 h3 h4 h5 h6
        go_wp2
        go_roundw
        case rel => exact ⟨i + 1, q2, PL + 1, false, _, by omega, rfl, by go_num, HN⟩
        case measure => simp [intOf]; omega
    · obtain rfl : i = n := by omega
      have HM := Lib.hid HI.out.mid
      have hle := HM.out.pos.le
      have hir : ¬ (i : Int) < (i : Int) := by omega
      obtain ⟨A2, cap2, hV, hS⟩ := rowOf_own HM.out.own HI.out.ok
      subst hV
      have HSM := Lib.hid hS
      clear hS
      by_cases hgood : bad = false ∧ p = bs.length
      · obtain ⟨rfl, hpe⟩ := hgood
        have HE := Lib.hid (HGO.out out p hle (by
          have h1 := HI.out.says rfl
          rw [Nat.sub_self] at h1
          rw [h1]
          simp [kaOn]))
        have MD2 : Hid (∀ B wx, RB wx B gR A len cap bs p false → Calls Tryz.prog 86 #[.pointer (some ⟨gR, 0, none⟩)] wx fun e w' => e = .returned (.bool true) ∧ Below wx.heap.size wx w') := Lib.hid (fun B wx h => by
          have := MD.out B gR p false wx h
          rw [decide_eq_true hpe] at this
          exact this)
        have HPE := Lib.hid hpe
        clear hpe
        go_wp2_with fail
        refine (MD2.out _ _ HM.out.pos).mono ?_
        rintro e w5 ⟨rfl, hb5⟩
        have HB5 := Lib.hid (past HM.out.below hb5)
        have hS5 := HSM.out.below hb5
        have m6 := aligned_any k hS5.1 hS5.2.1 hS5.2.2.1 hS5.2.2.2.1 HKK.out (HWD.out _ (by rw [← HGR.out]; exact HB5.out))
        have HOWN5 : Hid (w5.ownsRow w.heap.size 50 7 (.slice A2 out.length cap2) out.length (aggV out)) := Lib.hid (own7_grown HM.out.own (grown_of hb5 none) (fun k _ => by simp))
        clear hb5 hS5
        by_cases hr : Align out k
        · rw [decide_eq_true hr] at m6
          have HQ : Hid (∀ w6, Below w5.heap.size w5 w6 → GetAPost w G (.returned (.tuple #[.slice A2 out.length cap2, .int .i64 0])) w6) := Lib.hid (fun w6 h6 => by
            rw [HE.out, if_pos ⟨HPE.out, hr⟩]
            exact ⟨⟨_, rfl, own7_grown HOWN5.out (grown_of h6 none) (fun k _ => by simp), HI.out.ok⟩, past HB5.out h6⟩)
          have M6 := Lib.hid m6
          clear m6 hr
          go_wp2_with fail
          refine M6.out.mono ?_
          rintro e w6 ⟨rfl, hb6⟩
          have HQ6 := Lib.hid (HQ.out w6 hb6)
          clear hb6
          go_wp2
          (try rw [Exit.noGoto_ret])
          go_ret2
          exact HQ6.out
        · rw [decide_eq_false hr] at m6
          have HQ : Hid (∀ w6, Below w5.heap.size w5 w6 → GetAPost w G (.returned (.tuple #[.slice none 0 0, .int .i64 2])) w6) := Lib.hid (fun w6 h6 => by
            rw [HE.out, if_neg (fun h => hr h.2)]
            exact ⟨rfl, past HB5.out h6⟩)
          have M6 := Lib.hid m6
          clear m6 hr
          go_wp2_with fail
          refine M6.out.mono ?_
          rintro e w6 ⟨rfl, hb6⟩
          have HQ6 := Lib.hid (HQ.out w6 hb6)
          clear hb6
          go_wp2
          (try rw [Exit.noGoto_ret])
          go_ret2
          exact HQ6.out
      · have HE : Hid (G = none) := Lib.hid (by
          cases hb : bad with
          | true =>
            subst hb
            exact HGN.out (HI.out.wrong rfl).1
          | false =>
            subst hb
            have h1 := HI.out.says rfl
            rw [Nat.sub_self] at h1
            have h3 := HGO.out out p hle (by rw [h1]; simp [kaOn])
            rw [if_neg (fun h => hgood ⟨rfl, h.1⟩)] at h3
            exact h3)
        have MD2 : Hid (∀ B wx, RB wx B gR A len cap bs p bad → Calls Tryz.prog 86 #[.pointer (some ⟨gR, 0, none⟩)] wx fun e w' => e = .returned (.bool false) ∧ Below wx.heap.size wx w') := Lib.hid (fun B wx h => by
          have := MD.out B gR p bad wx h
          have e : (!bad && decide (p = bs.length)) = false := by
            cases bad with
            | true => rfl
            | false => simp only [Bool.not_false, Bool.true_and, decide_eq_false_iff_not]; exact fun h => hgood ⟨rfl, h⟩
          rw [e] at this
          exact this)
        clear hgood
        go_wp2_with fail
        refine (MD2.out _ _ HM.out.pos).mono ?_
        rintro e w5 ⟨rfl, hb5⟩
        have HQ : Hid (GetAPost w G (.returned (.tuple #[.slice none 0 0, .int .i64 2])) w5) := Lib.hid (by rw [HE.out]; exact ⟨rfl, past HM.out.below hb5⟩)
        clear hb5
        go_wp2
        (try rw [Exit.noGoto_ret])
        go_ret2
        exact HQ.out

set_option maxRecDepth 100000 in
theorem kgeta_not (V : Value) (k : Int) (w : World) (hk : In64 k) (h : ¬ coarse k) :
    Calls Tryz.prog 63 #[V, .int .i64 k] w fun e w' => e = .returned (.tuple #[.slice none 0 0, .int .i64 1]) ∧ Below w.heap.size w w' := by
  by_cases h1 : k < 1
  · go_enter Tryz.func63, Tryz.ntmps63
    go_wp2
    go_step3
    go_wp2
    (try rw [Exit.noGoto_ret])
    go_ret2
    exact ⟨rfl, Below.refl _ _⟩
  · have h4 : 4 ≤ k := by unfold coarse at h; omega
    clear h
    go_enter Tryz.func63, Tryz.ntmps63
    go_wp2
    go_step3
    go_wp2
    (try rw [Exit.noGoto_ret])
    go_ret2
    exact ⟨rfl, Below.refl _ _⟩
end Go.Proofs.YtepancmkopifpaaGreatDoor
