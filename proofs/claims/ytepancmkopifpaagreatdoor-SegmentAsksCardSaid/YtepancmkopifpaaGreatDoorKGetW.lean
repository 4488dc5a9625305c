/-
  The landed block's Get: what it returns of every row of bytes; nothing that was there is written.
  The landed block's Get: what it returns of every row of bytes; nothing that was there is written.
-/
import Derived.Test.YtepancmkopifpaaGreatDoorKPut
import Derived.Test.YtepancmkopifpaaGreatDoorBRPutB
namespace Go.Proofs.YtepancmkopifpaaGreatDoor
open Go.RowKit
attribute [local go_sem ↓] Go.wp_at_zero Go.wp_at_succ
set_option linter.unusedVariables false

/-- Amid a round: the reader, the row of the call's own, the sample that is read, each apart from the others. -/
structure KMid (w wr : World) (gR gS : Nat) (A : Option Addr) (len cap : Nat) (bs : List Nat) (p : Nat) (bad : Bool) (V : Value) (out : List (Int × Int)) (t v : Int) : Prop where
  pos : RB wr w.heap.size gR A len cap bs p bad
  own : wr.ownsRow w.heap.size 48 2 V out.length (sampV out)
  below : Below w.heap.size w wr
  sv : SVar wr gS t v
  base : w.heap.size ≤ gS
  ne : gR ≠ gS
  ap : ∀ k, V.ownBlock = some k → k ≠ gR ∧ k ≠ gS
section
variable {w wr w' : World} {gR gS : Nat} {A : Option Addr} {len cap : Nat} {bs : List Nat} {p q : Nat} {bad b : Bool} {V : Value} {out : List (Int × Int)} {t v : Int}
theorem own2_grown {base n : Nat} {xs : List Value} {row : Option Nat} (h : wr.ownsRow base 48 2 V n xs) (hg : wr.grownBy w' row) (hne : ∀ k, V.ownBlock = some k → some k ≠ row) : w'.ownsRow base 48 2 V n xs :=
  h.kept hg (by
    rcases e : V.ownBlock with _ | k
    · exact .inl rfl
    · exact .inr (hne k e))
theorem KMid.num (h : KMid w wr gR gS A len cap bs p bad V out t v) (hr : RB w' w.heap.size gR A len cap bs q b) (hg : wr.grownBy w' (some gR)) : KMid w w' gR gS A len cap bs q b V out t v :=
  ⟨hr, own2_grown h.own hg (fun k e e2 => (h.ap k e).1 (by injection e2)), h.below.grown hg h.below.size (fun k e => by injection e with e; subst e; exact h.pos.base), h.sv.grown hg (fun e => h.ne (by injection e with e; exact e.symm)), h.base, h.ne, h.ap⟩
theorem KMid.drewN (h : KMid w wr gR gS A len cap bs p bad V out t v) (n : Nat) : KMid w (wr.drewN n) gR gS A len cap bs p bad V out t v :=
  h.num (h.pos.grown (g_drew wr n none) (by simp) (fun k e => by cases e)) (g_drew wr n _)
theorem SVar.set0 {g : Nat} (h : SVar w g t v) (t' : Int) : SVar (w.setCell ⟨g, 0, none⟩ (.int .i64 t')) g t' v := by
  obtain ⟨c0, c1, f0, f1⟩ := h
  constructor <;> simp [go_sem, *]
theorem SVar.set1 {g : Nat} (h : SVar w g t v) (v' : Int) : SVar (w.setCell ⟨g, 1, none⟩ (.int .i64 v')) g t v' := by
  obtain ⟨c0, c1, f0, f1⟩ := h
  constructor <;> simp [go_sem, *]
theorem KMid.cell (h : KMid w wr gR gS A len cap bs p bad V out t v) (j : Nat) (x : Value) {t' v' : Int} (hs : SVar (wr.setCell ⟨gS, j, none⟩ x) gS t' v') : KMid w (wr.setCell ⟨gS, j, none⟩ x) gR gS A len cap bs p bad V out t' v' := by
  have hg := g_cell wr gS j x
  exact ⟨h.pos.grown hg (fun e => h.ne (by injection e)) (fun k e => by injection e with e; subst e; exact h.base), own2_grown h.own hg (fun k e e2 => (h.ap k e).2 (by injection e2)), h.below.grown hg h.below.size (fun k e => by injection e with e; subst e; exact h.base), hs, h.base, h.ne, h.ap⟩
theorem KMid.setT (h : KMid w wr gR gS A len cap bs p bad V out t v) (t' : Int) : KMid w (wr.setCell ⟨gS, 0, none⟩ (.int .i64 t')) gR gS A len cap bs p bad V out t' v := h.cell 0 _ (h.sv.set0 t')
theorem KMid.setV (h : KMid w wr gR gS A len cap bs p bad V out t v) (v' : Int) : KMid w (wr.setCell ⟨gS, 1, none⟩ (.int .i64 v')) gR gS A len cap bs p bad V out t v' := h.cell 1 _ (h.sv.set1 v')
/-- Behind an append. -/
theorem KMid.app (h : KMid w wr gR gS A len cap bs p bad V out t v) {o : Obj} {g2 cap2 : Nat} {x : Int × Int} (hown : w'.ownsRow w.heap.size 48 2 (.slice (some ⟨g2, 0, none⟩) (out.length + 1) cap2) (out.length + 1) (sampV out ++ [.int .i64 x.1, .int .i64 x.2])) (hg : (wr.alloc o).grownBy w' V.ownBlock)
    (hat : V.ownBlock = some g2 ∨ g2 = (wr.alloc o).heap.size) : KMid w w' gR gS A len cap bs p bad (.slice (some ⟨g2, 0, none⟩) (out.length + 1) cap2) (out ++ [x]) t v := by
  have hf : ∀ k, V.ownBlock = some k → w.heap.size ≤ k := fun k e => (h.own.lt k e).1
  have hsz : wr.heap.size ≤ (wr.alloc o).heap.size := by simp
  have h1 := h.pos.grown (g_all wr o none) (by simp) (fun k e => by cases e)
  have h2 := h.sv.grown (g_all wr o none) (by simp)
  refine ⟨h1.grown hg (fun e => (h.ap gR e.symm).1 rfl) hf, ?_, (past_alloc h.below o).grown hg (Nat.le_trans h.below.size hsz) hf, h2.grown hg (fun e => (h.ap gS e.symm).2 rfl), h.base, h.ne, ?_⟩
  · rw [sampV_append, List.length_append]
    exact hown
  · intro k e
    simp only [Value.ownBlock, Option.some.injEq] at e
    subst e
    rcases hat with e | e
    · exact h.ap _ e
    · have := h.pos.at_.lt
      have := h.sv.lt
      omega
end
/-- What is still to be read. -/
def kLeft (n i : Nat) (t s v : Int) (b : List Nat) : Option (List (Int × Int) × List Nat) := match i with
  | 0 => kFirst n b
  | i + 1 => kOn (n - (i + 1)) t s v b
structure KGInv (w wr : World) (gR gS : Nat) (A : Option Addr) (len cap : Nat) (bs : List Nat) (R : Option (List (Int × Int) × List Nat)) (n i : Nat) (st : Int) (p : Nat) (bad : Bool) (V : Value) (out : List (Int × Int)) (t v : Int) : Prop where
  mid : KMid w wr gR gS A len cap bs p bad V out t v
  in2 : In2 out
  len_ : out.length = i
  step : In64 st
  tv : In64 t ∧ In64 v
  zero : i = 0 → st = 0 ∧ v = 0
  says : bad = false → R = (kLeft n i t st v (bs.drop p)).map fun y => (out ++ y.1, y.2)
  wrong : bad = true → R = none ∧ n = 0
theorem rd_num {bs : List Nat} {p : Nat} : rd (bs.drop p) = if (numR bs p false).2.2 then none else some ((numR bs p false).1, bs.drop (numR bs p false).2.1) := by
  unfold rd numR
  simp only
  cases e : dec 0 0 (bs.drop p) with
  | none => simp
  | some y =>
    obtain ⟨v, k⟩ := y
    simp [List.drop_drop]
theorem kLeft_zero {bs : List Nat} {n p a c q1 q2 : Nat} {b1 b2 : Bool} {t s v : Int} (hn : 0 < n) (e1 : numR bs p false = (a, q1, b1)) (e2 : numR bs q1 false = (c, q2, b2)) :
    kLeft n 0 t s v (bs.drop p) = if b1 || b2 then none else (kLeft n 1 (w64 a) 0 (zag c) (bs.drop q2)).map fun y => ((w64 a, zag c) :: y.1, y.2) := by
  obtain ⟨m, rfl⟩ : ∃ m, n = m + 1 := ⟨n - 1, by omega⟩
  simp only [kLeft, kFirst, rd_num, e1, Nat.add_sub_cancel]
  cases b1 with
  | true => simp
  | false =>
    simp only [Bool.false_eq_true, if_false, Bool.false_or, rd_num, e2]
    cases b2 with
    | true => simp
    | false =>
      simp only [Bool.false_eq_true, if_false]
      cases kOn m (w64 a) 0 (zag c) (bs.drop q2) <;> rfl
theorem kLeft_succ {bs : List Nat} {n i p a c q1 q2 : Nat} {b1 b2 : Bool} {t s v : Int} (hi : 0 < i) (hn : i < n) (e1 : numR bs p false = (a, q1, b1)) (e2 : numR bs q1 false = (c, q2, b2)) :
    kLeft n i t s v (bs.drop p) = if b1 || b2 then none else (kLeft n (i + 1) (w64 (t + w64 (s + zag a))) (w64 (s + zag a)) (w64 (v + zag c)) (bs.drop q2)).map fun y => ((w64 (t + w64 (s + zag a)), w64 (v + zag c)) :: y.1, y.2) := by
  obtain ⟨j, rfl⟩ : ∃ j, i = j + 1 := ⟨i - 1, by omega⟩
  obtain ⟨m, hm⟩ : ∃ m, n - (j + 1) = m + 1 := ⟨n - (j + 2), by omega⟩
  have hm2 : n - (j + 1 + 1) = m := by omega
  simp only [kLeft, hm, hm2, kOn, rd_num, e1]
  cases b1 with
  | true => simp
  | false =>
    simp only [Bool.false_eq_true, if_false, Bool.false_or, rd_num, e2]
    cases b2 with
    | true => simp
    | false =>
      simp only [Bool.false_eq_true, if_false]
      cases kOn m (w64 (t + w64 (s + zag a))) (w64 (s + zag a)) (w64 (v + zag c)) (bs.drop q2) <;> rfl
theorem new2 (w : World) (t v : Int) : ∀ j u, ([.int .i64 t, .int .i64 v] : List Value)[j]? = some u → (w.alloc (.cells #[.int .i64 t, .int .i64 v] 48)).cell? ((⟨w.heap.size, 0, none⟩ : Addr).add j) = some u := by
  intro j x hj
  match j, hj with
  | 0, hj => simp at hj; subst hj; simp [Addr.add]
  | 1, hj => simp at hj; subst hj; simp [Addr.add]
theorem one2 (t v : Int) : ∀ u ∈ ([.int .i64 t, .int .i64 v] : List Value), u.oneCell' = true := by
  intro x hx
  simp at hx
  rcases hx with rfl | rfl <;> rfl
theorem kg_next {α : Type} {R L M : Option (List α × List Nat)} {out : List α} {x : α} {b : Bool} (hs : R = L.map fun y => (out ++ y.1, y.2)) (hl : L = if b then none else M.map fun y => (x :: y.1, y.2)) :
    (b = false → R = M.map fun y => ((out ++ [x]) ++ y.1, y.2)) ∧ (b = true → R = none) := by
  subst hl hs
  cases b with
  | true => exact ⟨fun h => (by cases h), fun _ => rfl⟩
  | false =>
    refine ⟨fun _ => ?_, fun h => (by cases h)⟩
    cases M <;> simp
theorem kAll_num {bs : List Nat} {n p : Nat} {b : Bool} (e : numR bs 0 false = (n, p, b)) : kAll bs = if b || decide (64 < n) then none else kFirst n (bs.drop p) := by
  have h : rd bs = if b then none else some (n, bs.drop p) := by
    have := rd_num (bs := bs) (p := 0)
    rw [e] at this
    simpa using this
  unfold kAll
  rw [h]
  cases b with
  | true => simp
  | false =>
    by_cases h64 : 64 < n
    · simp [h64]
    · simp [h64]
theorem numR_bad {bs : List Nat} {n p q : Nat} {b : Bool} (e : numR bs p false = (n, q, b)) (hb : b = true) : n = 0 := by
  unfold numR at e
  simp only at e
  split at e
  · simp only [Prod.mk.injEq] at e
    rw [hb] at e
    exact absurd e.2.2 (by simp)
  · simp only [Prod.mk.injEq] at e
    exact e.1.symm
theorem getB_none {bs : List Nat} (hb : ∀ c ∈ bs, c < 256) (h : kAll bs = none) : getB bs = none := by rw [kAll_says hb, h]
theorem getB_of {bs : List Nat} {l : List (Int × Int)} {p : Nat} (hb : ∀ c ∈ bs, c < 256) (hp : p ≤ bs.length) (h : kAll bs = some (l, bs.drop p)) : getB bs = if p = bs.length ∧ Rise l then some l else none := by
  rw [kAll_says hb, h]
  by_cases e : p = bs.length
  · have : bs.drop p = [] := by rw [e]; simp
    rw [this]
    simp [e]
  · rw [if_neg (fun h => e h.1)]
    rcases hd : bs.drop p with _ | ⟨x, r⟩
    · have := congrArg List.length hd
      simp at this
      omega
    · rfl
end Go.Proofs.YtepancmkopifpaaGreatDoor
namespace Go.Proofs.YtepancmkopifpaaGreatDoor
open Go.RowKit
attribute [local go_sem ↓] Go.wp_at_zero Go.wp_at_succ
set_option linter.unusedVariables false

set_option maxRecDepth 100000 in
set_option maxHeartbeats 4000000 in
theorem kget_any (A : Option Addr) (len cap : Nat) (bs : List Nat) (w : World) (hl : bs.length = len) (hB : Bytes w A bs) (hc : len ≤ cap) (hm : cap ≤ maxLen) :
    Calls Tryz.prog 62 #[.slice A len cap] w (GetPost w (getB bs)) := by
  obtain ⟨i0, hi0, hz0, hz1, hz2⟩ := info_parts Tryz.info48
  have HBY := Lib.hid hB.1
  have HM0 : Hid (KMid w ((w.alloc (.cells #[.slice A len cap, .int .i64 0, .bool false] 111)).alloc (.cells #[.int .i64 0, .int .i64 0] 48)) w.heap.size (w.heap.size + 1) A len cap bs 0 false (.slice none 0 0) [] 0 0) := Lib.hid (by
    have hB2 : Below w.heap.size w ((w.alloc (.cells #[.slice A len cap, .int .i64 0, .bool false] 111)).alloc (.cells #[.int .i64 0, .int .i64 0] 48)) := past_alloc (past_alloc (Below.refl _ _) _) _
    refine ⟨⟨?_, hB.below hB2, hl, hc, hm, fun hp ad e => ?_, Nat.le_refl _, Nat.zero_le _⟩, World.ownsRow_nil _ _ _ _, hB2, ?_, by omega, by omega, fun k e => by cases e⟩
    · constructor <;> simp
    · obtain ⟨ad', e', hcc⟩ := hB.2 hp
      rw [e] at e'
      injection e' with e'
      subst e'
      have := World.block_lt_of_cell? w _ (hcc 0 hp)
      have e3 : (ad.add 0).block = ad.block := by unfold Addr.add; split <;> rfl
      omega
    · constructor <;> simp)
  obtain ⟨N, p0, b0, e0⟩ : ∃ N p b, numR bs 0 false = (N, p, b) := ⟨_, _, _, rfl⟩
  have hN := (numR_le (bs := bs) (p := 0) (bad := false) hB.1 (Nat.zero_le _)).2
  rw [e0] at hN
  have MC : Hid (∀ B g w, RB w B g A len cap bs 0 false → Calls Tryz.prog 83 #[.pointer (some ⟨g, 0, none⟩), .int .u64 64] w fun e w' => e = .returned (.int .i64 (if 64 < N then 0 else N : Nat)) ∧ RB w' B g A len cap bs p0 (b0 || decide (64 < N)) ∧ w.grownBy w' (some g)) := Lib.hid (fun B g w h => kcount_any B g A len cap bs w h _ e0)
  have HR := Lib.hid (kAll_num e0)
  have HN0 := Lib.hid (fun h => numR_bad e0 h)
  have MN := Lib.hid (fun B g p bad w h => number_any B g A len cap bs p bad w h)
  have MD := Lib.hid (fun B g p bad w h => done_any B g A len cap bs p bad w h)
  have HGN := Lib.hid (fun h => getB_none hB.1 h)
  have HGO := Lib.hid (fun l p hp h => getB_of (l := l) (p := p) hB.1 hp h)
  generalize kAll bs = R at *
  generalize getB bs = G at *
  clear e0 hB hl
  go_enter Tryz.func62, Tryz.ntmps62
  go_wp2
  go_step3
  go_wp2
  go_step3
  go_wp2_with fail
  refine (MC.out _ _ _ HM0.out.pos).mono ?_
  rintro e w1 ⟨rfl, hr1, hg1⟩
  have HM1 := Lib.hid (HM0.out.num hr1 hg1)
  obtain ⟨n, hn⟩ : ∃ n, (if 64 < N then 0 else N) = n := ⟨_, rfl⟩
  have hn64 : n ≤ 64 := by rw [← hn]; split <;> omega
  rw [hn]
  obtain ⟨b1, hb1⟩ : ∃ b1, (b0 || decide (64 < N)) = b1 := ⟨_, rfl⟩
  rw [hb1] at HM1 HR
  have HST : Hid (KGInv w w1 w.heap.size (w.heap.size + 1) A len cap bs R n 0 0 p0 b1 (.slice none 0 0) [] 0 0) := Lib.hid (by
    refine ⟨HM1.out, fun _ h => by simp at h, rfl, by unfold In64; omega, by unfold In64; omega, fun _ => ⟨rfl, rfl⟩, fun e => ?_, fun e => ?_⟩
    · rw [HR.out, e]
      subst hb1
      simp only [Bool.or_eq_false_iff, decide_eq_false_iff_not] at e
      rw [if_neg e.2] at hn
      subst hn
      simp only [Bool.false_eq_true, if_false, kLeft]
      cases kFirst N (bs.drop p0) <;> rfl
    · rw [HR.out, e]
      refine ⟨rfl, ?_⟩
      subst hb1
      simp only [Bool.or_eq_true, decide_eq_true_eq] at e
      rw [← hn]
      split
      · rfl
      · rcases e with e | e
        · exact HN0.out e
        · omega)
  clear hr1 hg1 HM0 HM1 hn hb1 HR HN0 hN MC
  generalize hgR : w.heap.size = gR at *
  generalize hgS : gR + 1 = gS at *
  have HGR := Lib.hid hgR
  clear hgR hgS
  go_wp2
  go_loopw [5, 7, 12] (fun s5 s7 s12 wr => ∃ (i p : Nat) (st t v : Int) (bad : Bool) (out : List (Int × Int)), i ≤ n ∧ s7 = .int .i64 st ∧ s12 = .int .i64 (i : Int) ∧ Hid (KGInv w wr gR gS A len cap bs R n i st p bad s5 out t v)) (fun _ _ s12 _ => n - (intOf s12).toNat)
  case atStart => exact ⟨0, p0, 0, 0, 0, b1, [], by omega, rfl, rfl, HST⟩
  case round =>
    clear HST
    obtain ⟨i, p, st, t, v, bad, out, hi, rfl, rfl, HI⟩ := hrel
    by_cases hlt : i < n
    · have hbad : bad = false := by
        cases bad
        · rfl
        · have := (HI.out.wrong rfl).2
          omega
      subst hbad
      have i1 : (i : Int) < (n : Int) := by omega
      obtain ⟨a, q1, b1, e1⟩ : ∃ a q b, numR bs p false = (a, q, b) := ⟨_, _, _, rfl⟩
      obtain ⟨c, q2, b2, e2⟩ : ∃ a q b, numR bs q1 false = (a, q, b) := ⟨_, _, _, rfl⟩
      have hle := HI.out.mid.pos.le
      have l1 := numR_le (bad := false) HBY.out hle
      rw [e1] at l1
      have l2 := numR_le (bad := false) HBY.out l1.1
      rw [e2] at l2
      simp only at l1 l2
      have m1 := fun w h => MN.out (w.heap.size) gR p false w h
      have M1 : Hid (∀ B wx, RB wx B gR A len cap bs p false → Calls Tryz.prog 84 #[.pointer (some ⟨gR, 0, none⟩)] wx fun e w' => e = .returned (.int .u64 (a : Int)) ∧ RB w' B gR A len cap bs q1 b1 ∧ wx.grownBy w' (some gR)) := Lib.hid (fun B wx h => by
        have := MN.out B gR p false wx h
        unfold NumP at this
        rw [e1] at this
        exact this)
      have M2 : Hid (∀ B wx, RB wx B gR A len cap bs q1 b1 → Calls Tryz.prog 84 #[.pointer (some ⟨gR, 0, none⟩)] wx fun e w' => e = .returned (.int .u64 (c : Int)) ∧ RB w' B gR A len cap bs q2 (b1 || b2) ∧ wx.grownBy w' (some gR)) := Lib.hid (fun B wx h => by
        have := MN.out B gR q1 b1 wx h
        unfold NumP at this
        rw [e2] at this
        exact this)
      have MZ := Lib.hid (fun w => zag_any (c : Int) w (by omega) (by omega))
      have MZ0 := Lib.hid (fun w => zag_any (a : Int) w (by omega) (by omega))
      have hzr := zag_range (c : Int) (by omega) (by omega)
      have hza := zag_range (a : Int) (by omega) (by omega)
      have htv := HI.out.tv
      have hst := HI.out.step
      have HOL := Lib.hid HI.out.len_
      have hlo : out.length ≤ 64 := by have := HI.out.len_; omega
      obtain ⟨v', hv'⟩ : ∃ v', w64 (v + zag (c : Int)) = v' := ⟨_, rfl⟩
      have hwv : IntKind.i64.wrap (v + zag (c : Int)) = v' := by rw [IntKind.wrap_i64, ← hv']; rfl
      by_cases hi0 : i = 0
      case' pos =>
        obtain ⟨t', ht'⟩ : ∃ t', w64 (a : Int) = t' := ⟨_, rfl⟩
        have hwt : IntKind.i64.wrap (a : Int) = t' := by rw [IntKind.wrap_i64, ← ht']; rfl
        have HLEFT := Lib.hid (kg_next (M := kLeft n (i + 1) t' st v' (bs.drop q2)) (x := (t', v')) (b := (b1 || b2)) (HI.out.says rfl) (by
          have hz := HI.out.zero hi0
          have hv2 : v' = zag (c : Int) := by rw [← hv', hz.2, Int.zero_add]; exact w64_id hzr
          rw [hi0, hz.1, hv2, ← ht']
          exact kLeft_zero (by omega) e1 e2))
        have HT' : Hid (In64 t' ∧ In64 v' ∧ In64 st) := Lib.hid ⟨ht' ▸ w64_in _, hv' ▸ w64_in _, hst⟩
        have HM := Lib.hid HI.out.mid
        have ieq : ((i : Int) == 0) = true := by simp; omega
        have hf0 := HI.out.mid.sv
        clear hv' ht' hst htv hza hi0 e1 e2 m1 hf0
        go_wp2_with fail
        refine (M1.out _ _ HM.out.pos).mono ?_
        rintro e w2 ⟨rfl, hr2, hg2⟩
        have HM2 := Lib.hid (HM.out.num hr2 hg2)
        obtain ⟨x0, x1, x2, x3⟩ := HM2.out.sv
        have HM3 := Lib.hid (HM2.out.setT t')
        clear hr2 hg2 HM
        go_upto_region 12 with fail
        clear x0 x1 x2 x3 hwt
        generalize w2.setCell ⟨gS, 0, none⟩ (.int .i64 t') = w3 at *
      case' neg =>
        have hpos : 0 < i := by omega
        obtain ⟨st', hst'⟩ : ∃ st', w64 (st + zag (a : Int)) = st' := ⟨_, rfl⟩
        have hws : IntKind.i64.wrap (st + zag (a : Int)) = st' := by rw [IntKind.wrap_i64, ← hst']; rfl
        obtain ⟨t', ht'⟩ : ∃ t', w64 (t + st') = t' := ⟨_, rfl⟩
        have hwt : IntKind.i64.wrap (t + st') = t' := by rw [IntKind.wrap_i64, ← ht']; rfl
        have HLEFT := Lib.hid (kg_next (M := kLeft n (i + 1) t' st' v' (bs.drop q2)) (x := (t', v')) (b := (b1 || b2)) (HI.out.says rfl) (by
          rw [← hv', ← ht', ← hst']
          exact kLeft_succ hpos hlt e1 e2))
        have HT' : Hid (In64 t' ∧ In64 v' ∧ In64 st') := Lib.hid ⟨ht' ▸ w64_in _, hv' ▸ w64_in _, hst' ▸ w64_in _⟩
        have HM := Lib.hid HI.out.mid
        have ieq : ((i : Int) == 0) = false := by simp; omega
        have hf0 := HI.out.mid.sv
        clear hv' ht' hst' hst htv hi0 e1 e2 m1 hf0
        generalize zag (a : Int) = Z0 at *
        go_wp2_with fail
        refine (M1.out _ _ HM.out.pos).mono ?_
        rintro e w2 ⟨rfl, hr2, hg2⟩
        have HM2 := Lib.hid (HM.out.num hr2 hg2)
        clear hr2 hg2 HM
        go_wp2_with fail
        refine (MZ0.out _).mono ?_
        rintro e w2' ⟨rfl, rfl⟩
        obtain ⟨x0, x1, x2, x3⟩ := HM2.out.sv
        have HM3 := Lib.hid (HM2.out.setT t')
        go_upto_region 12 with fail
        clear x0 x1 x2 x3 hwt hws hza
        generalize w2.setCell ⟨gS, 0, none⟩ (.int .i64 t') = w3 at *
        generalize st' = st at *
      all_goals
        clear HM2
        generalize zag (c : Int) = Z at *
        obtain ⟨x0, x1, x2, x3⟩ := HM3.out.sv
        have HMN := Lib.hid (fun n => HM3.out.drewN n)
        go_region_with (first
          | (go_at_call 85; refine (MZ.out _).mono ?_; rintro e wt' ⟨rfl, rfl⟩)
          | (go_at_call 84; refine (M2.out _ _ (HMN.out 1).pos).mono ?_; rintro e wt ⟨rfl, hrt, hgt⟩; have hM := (HMN.out 1).num hrt hgt; obtain ⟨y0, y1, y2, y3⟩ := hM.sv))
        all_goals
          have HM4 := Lib.hid (hM.setV v')
          clear x0 x1 x2 x3 y0 y1 y2 y3 hM hrt hgt hwv
          generalize wt.setCell ⟨gS, 1, none⟩ (.int .i64 v') = w4 at *
          have cw := HM4.out.pos.at_.c2
          obtain ⟨bb, hbb⟩ : ∃ bb, (b1 || b2) = bb := ⟨_, rfl⟩
          rw [hbb] at HM4 cw HLEFT
          clear hbb
          cases bb with
          | true =>
            have HE := Lib.hid (HGN.out (HLEFT.out.2 rfl))
            go_wp2_with fail
            refine (MD.out _ _ _ _ _ HM4.out.pos).mono ?_
            rintro e w5 ⟨rfl, hb5⟩
            have HQ : Hid (GetPost w G (.returned (.tuple #[.slice none 0 0, .int .i64 2])) w5) := Lib.hid (by rw [HE.out]; exact ⟨rfl, past HM4.out.below hb5⟩)
            clear hb5
            go_wp2
            (try rw [Exit.noGoto_ret])
            go_ret2
            exact HQ.out
          | false =>
            have HR2 := Lib.hid (HLEFT.out.1 rfl)
            obtain ⟨x0, x1, x2, x3⟩ := HM4.out.sv
            have HO : Hid ((w4.alloc (.cells #[.int .i64 t', .int .i64 v'] 48)).ownsRow w.heap.size 48 2 u5 out.length (sampV out)) := Lib.hid (own_alloc HM4.out.own _)
            have hsz := HM4.out.below.size
            have HNW := Lib.hid (new2 w4 t' v')
            go_wp2_with (at_builtin; refine wpList_append_lies _ rfl _ _ 22 rfl w.heap.size 48 i0 (.agg #[.int .i64 0, .int .i64 0]) 2 16 Tryz.underlying22 hi0 hz0 hz1 hz2 rfl (by decide) u5 out.length (sampV out) rfl HO.out ⟨w4.heap.size, 0, none⟩ 1 1 [.int .i64 t', .int .i64 v'] rfl rfl HNW.out (one2 _ _) (by decide) ?c3 ?c4 ?c5 (w4.alloc (.cells #[.int .i64 t', .int .i64 v'] 48)).heap.size rfl ?_)
            case c3 => unfold maxLen; omega
            case c4 => omega
            case c5 => (try simp); omega
            intro g2 cap2 wa hown hgrow hat hltg
            have HN : Hid (KGInv w wa gR gS A len cap bs R n (i + 1) st q2 false (.slice (some ⟨g2, 0, none⟩) (out.length + 1) cap2) (out ++ [(t', v')]) t' v') := Lib.hid ⟨HM4.out.app (x := (t', v')) hown hgrow (by simpa using hat), by
              intro y hy
              rw [List.mem_append, List.mem_singleton] at hy
              rcases hy with hy | rfl
              · exact HI.out.in2 y hy
              · exact ⟨HT'.out.1, HT'.out.2.1⟩, by rw [List.length_append, HOL.out]; rfl, HT'.out.2.2, ⟨HT'.out.1, HT'.out.2.1⟩, fun h => absurd h (by omega), fun _ => HR2.out, fun h => (by cases h)⟩
            clear hown hgrow hat hltg x0 x1 x2 x3
            go_wp2
            go_roundw
            case rel => exact ⟨i + 1, q2, st, t', v', false, _, by omega, rfl, by go_num, HN⟩
            case measure => simp [intOf]; omega
    · obtain rfl : i = n := by omega
      have HM := Lib.hid HI.out.mid
      have hle := HM.out.pos.le
      have hir : ¬ (i : Int) < (i : Int) := by omega
      obtain ⟨A2, cap2, hV, hS, hc2, hm2⟩ := own_form HM.out.own HI.out.in2
      subst hV
      have HSM := Lib.hid hS
      clear hS
      by_cases hgood : bad = false ∧ p = bs.length
      · obtain ⟨rfl, hpe⟩ := hgood
        have HE := Lib.hid (HGO.out out p hle (by
          have h1 := HI.out.says rfl
          have h2 : kLeft i i t st v (bs.drop p) = some ([], bs.drop p) := by
            match i, HI with
            | 0, _ => rfl
            | j + 1, _ => simp [kLeft, kOn]
          rw [h1, h2]
          simp))
        have md := fun w h => MD.out w.heap.size gR p false w h
        have MD2 : Hid (∀ B wx, RB wx B gR A len cap bs p false → Calls Tryz.prog 86 #[.pointer (some ⟨gR, 0, none⟩)] wx fun e w' => e = .returned (.bool true) ∧ Below wx.heap.size wx w') := Lib.hid (fun B wx h => by
          have := MD.out B gR p false wx h
          rw [decide_eq_true hpe] at this
          exact this)
        have HPE := Lib.hid hpe
        clear md hpe
        go_wp2_with fail
        refine (MD2.out _ _ HM.out.pos).mono ?_
        rintro e w5 ⟨rfl, hb5⟩
        have HB5 := Lib.hid (past HM.out.below hb5)
        have m6 := rising_any rfl (HSM.out.below hb5) hc2 hm2
        have HOWN5 : Hid (w5.ownsRow w.heap.size 48 2 (.slice A2 out.length cap2) out.length (sampV out)) := Lib.hid (own2_grown HM.out.own (grown_of hb5 none) (fun k _ => by simp))
        clear hb5
        by_cases hr : Rise out
        · rw [decide_eq_true hr] at m6
          have HQ : Hid (∀ w6, Below w5.heap.size w5 w6 → GetPost w G (.returned (.tuple #[.slice A2 out.length cap2, .int .i64 0])) w6) := Lib.hid (fun w6 h6 => by
            rw [HE.out, if_pos ⟨HPE.out, hr⟩]
            exact ⟨⟨_, rfl, own2_grown HOWN5.out (grown_of h6 none) (fun k _ => by simp), HI.out.in2⟩, past HB5.out h6⟩)
          have M6 := Lib.hid m6
          clear m6 hr
          go_wp2_with fail
          refine M6.out.mono ?_
          rintro e w6 ⟨rfl, hb6⟩
          have HQ6 := Lib.hid (HQ.out w6 hb6)
          clear hb6
          go_wp2
          (try rw [Exit.noGoto_ret])
          go_ret2
          exact HQ6.out
        · rw [decide_eq_false hr] at m6
          have HQ : Hid (∀ w6, Below w5.heap.size w5 w6 → GetPost w G (.returned (.tuple #[.slice none 0 0, .int .i64 2])) w6) := Lib.hid (fun w6 h6 => by
            rw [HE.out, if_neg (fun h => hr h.2)]
            exact ⟨rfl, past HB5.out h6⟩)
          have M6 := Lib.hid m6
          clear m6 hr
          go_wp2_with fail
          refine M6.out.mono ?_
          rintro e w6 ⟨rfl, hb6⟩
          have HQ6 := Lib.hid (HQ.out w6 hb6)
          clear hb6
          go_wp2
          (try rw [Exit.noGoto_ret])
          go_ret2
          exact HQ6.out
      · have HE : Hid (G = none) := Lib.hid (by
          cases hb : bad with
          | true =>
            subst hb
            exact HGN.out (HI.out.wrong rfl).1
          | false =>
            subst hb
            have h1 := HI.out.says rfl
            have h2 : kLeft i i t st v (bs.drop p) = some ([], bs.drop p) := by
              match i, HI with
              | 0, _ => rfl
              | j + 1, _ => simp [kLeft, kOn]
            rw [h2] at h1
            have h3 := HGO.out out p hle (by rw [h1]; simp)
            rw [if_neg (fun h => hgood ⟨rfl, h.1⟩)] at h3
            exact h3)
        have MD2 : Hid (∀ B wx, RB wx B gR A len cap bs p bad → Calls Tryz.prog 86 #[.pointer (some ⟨gR, 0, none⟩)] wx fun e w' => e = .returned (.bool false) ∧ Below wx.heap.size wx w') := Lib.hid (fun B wx h => by
          have := MD.out B gR p bad wx h
          have e : (!bad && decide (p = bs.length)) = false := by
            cases bad with
            | true => rfl
            | false => simp only [Bool.not_false, Bool.true_and, decide_eq_false_iff_not]; exact fun h => hgood ⟨rfl, h⟩
          rw [e] at this
          exact this)
        clear hgood
        go_wp2_with fail
        refine (MD2.out _ _ HM.out.pos).mono ?_
        rintro e w5 ⟨rfl, hb5⟩
        have HQ : Hid (GetPost w G (.returned (.tuple #[.slice none 0 0, .int .i64 2])) w5) := Lib.hid (by rw [HE.out]; exact ⟨rfl, past HM.out.below hb5⟩)
        clear hb5
        go_wp2
        (try rw [Exit.noGoto_ret])
        go_ret2
        exact HQ.out
end Go.Proofs.YtepancmkopifpaaGreatDoor
