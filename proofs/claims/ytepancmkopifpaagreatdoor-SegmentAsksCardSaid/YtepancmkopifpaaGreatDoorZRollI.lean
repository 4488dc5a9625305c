/-
  What the document's Roll holds amid its loops.
  What the document's Roll holds amid the windows of one segment.
-/
import Derived.Test.YtepancmkopifpaaGreatDoorZDown
import Derived.Test.YtepancmkopifpaaGreatDoorSRollG
namespace Go.Proofs.YtepancmkopifpaaGreatDoor
set_option linter.unusedVariables false

theorem meetOn_append : ∀ (x out y : List Ag), meetOn out (x ++ y) = if (meetOn out x).2 = 0 then meetOn (meetOn out x).1 y else meetOn out x
  | [], out, y => by rw [List.nil_append, meetOn, if_pos rfl]
  | a :: x, out, y => by
    rw [List.cons_append, meetOn, meetOn]
    by_cases h : 0 < out.length ∧ (agAt out (out.length - 1)).fr = a.fr
    · rw [if_pos h, if_pos h]
      by_cases hz : (join (agAt out (out.length - 1)) a).2 = 0
      · rw [if_pos hz, if_pos hz]
        exact meetOn_append x _ y
      · simp only [if_neg hz]
    · rw [if_neg h, if_neg h]
      exact meetOn_append x _ y
/-- The windows of the first j segments. -/
def agN (l : List Sg) (j : Nat) : List Ag := (l.take j).flatMap Sg.ag
theorem agN_succ {l : List Sg} {j : Nat} (h : j < l.length) : agN l (j + 1) = agN l j ++ (sgAt l j).ag := by
  unfold agN sgAt
  rw [List.take_succ_eq_append_getElem h, List.flatMap_append]
  simp [List.getD_eq_getElem?_getD, h]
theorem agN_all (l : List Sg) : agN l l.length = l.flatMap Sg.ag := by unfold agN; rw [List.take_length]
/-- One window more. -/
theorem meetOn_step {out : List Ag} {a : Ag} {r : List Ag} (h : 0 < out.length ∧ (agAt out (out.length - 1)).fr = a.fr) :
    meetOn out (a :: r) = if (join (agAt out (out.length - 1)) a).2 = 0 then meetOn (out.set (out.length - 1) (join (agAt out (out.length - 1)) a).1) r else ([], (join (agAt out (out.length - 1)) a).2) := by rw [meetOn, if_pos h]
theorem meetOn_new {out : List Ag} {a : Ag} {r : List Ag} (h : ¬ (0 < out.length ∧ (agAt out (out.length - 1)).fr = a.fr)) : meetOn out (a :: r) = meetOn (out ++ [a]) r := by rw [meetOn, if_neg h]
/-- The segments of a row that may be have aligned windows, or none. -/
theorem seg_align {s : Sg} (h : s.may) : s.ag = [] ∨ Align s.ag s.tier := by
  have hA := ((may_split s).1 h).2.2.2.2
  by_cases h0 : s.tier = 0
  · rw [if_pos h0] at hA
    exact .inl (List.length_eq_zero_iff.1 hA.1)
  · rw [if_neg h0] at hA
    exact .inr hA.2.2.2.1
theorem seg_meet {s : Sg} (h : s.may) : meetOn [] s.ag = (s.ag, 0) := by
  rcases seg_align h with e | e
  · rw [e, meetOn]
  · exact meet_align e
theorem meetOn_len : ∀ (x out : List Ag), (meetOn out x).1.length ≤ out.length + x.length
  | [], out => by rw [meetOn]; simp
  | a :: x, out => by
    rw [meetOn]
    split
    · split
      · have := meetOn_len x (out.set (out.length - 1) (join (agAt out (out.length - 1)) a).1)
        rw [List.length_set] at this
        simp only [List.length_cons]
        omega
      · simp
    · have := meetOn_len x (out ++ [a])
      simp only [List.length_append, List.length_cons, List.length_nil] at this ⊢
      omega
end Go.Proofs.YtepancmkopifpaaGreatDoor
set_option maxRecDepth 100000
namespace Go.Proofs.YtepancmkopifpaaGreatDoor
open Go.RowKit
set_option linter.unusedVariables false

theorem apart_types {w : World} {base base2 s1 s2 n m : Nat} {e1 e2 : TypeId} {v v2 : Value} {xs ys : List Value} (h1 : w.ownsRow base e1 s1 v n xs) (h2 : w.ownsRow base2 e2 s2 v2 m ys) (he : e1 ≠ e2) : v.ownBlock = none ∨ v.ownBlock ≠ v2.ownBlock := by
  rcases h1.2 with ⟨rfl, _⟩ | ⟨g, cap, cur, rfl, _, hh, _⟩
  · exact .inl rfl
  · right
    rcases h2.2 with ⟨rfl, _⟩ | ⟨g2, cap2, cur2, rfl, _, hh2, _⟩
    · intro e; cases e
    · intro e
      injection e with e
      change g = g2 at e
      subst e
      rw [hh] at hh2
      injection hh2 with hh2
      injection hh2 with _ hh2 _
      exact he hh2
theorem own_slc {w : World} {base n size : Nat} {e : TypeId} {v : Value} {xs : List Value} (h : w.ownsRow base e size v n xs) : ∃ A cap, v = .slice A n cap := by
  rcases h.2 with ⟨e1, e0⟩ | ⟨g, cap, cur, e1, _⟩
  · exact ⟨none, 0, by rw [e1, e0]⟩
  · exact ⟨_, cap, e1⟩
/-- Amid the windows of segment j. -/
structure IO (w wr : World) (l : List Sg) (j : Nat) (ag : List Ag) (q : Nat) (out : List Ag) (v8 : Value) (A9 : Option Addr) (c9 : Nat) : Prop where
  raw : wr.ownsRow (w.heap.size + 1) 48 2 v8 (smN l (j + 1)).length (sampV (smN l (j + 1)))
  fine : wr.ownsRow (w.heap.size + 1) 50 7 (.slice A9 out.length c9) out.length (aggV out)
  okf : ∀ a ∈ out, a.ok
  says : meetOn [] (agN l (j + 1)) = meetOn out (ag.drop q)
  res : SgV wr w.heap.size 0 0 0 0 (.slice none 0 0) (.slice none 0 0)
  below : Below w.heap.size w wr
  len : out.length ≤ 64 * j + q
  six : Six wr w.heap.size
section
variable {w wr wr' : World} {l : List Sg} {j q : Nat} {ag out : List Ag} {v8 : Value} {A9 : Option Addr} {c9 : Nat}
theorem IO.on (h : IO w wr l j ag q out v8 A9 c9) (hb : Below wr.heap.size wr wr') : IO w wr' l j ag q out v8 A9 c9 :=
  ⟨own_on h.raw hb, own_on h.fine hb, h.okf, h.says, h.res.below hb, past h.below hb, h.len, h.six.below (Nat.lt_of_lt_of_le (Nat.lt_succ_self _) h.res.lt) hb⟩
theorem IO.lt (h : IO w wr l j ag q out v8 A9 c9) : w.heap.size + 1 ≤ wr.heap.size := h.res.lt
theorem drop_ag {ag : List Ag} {q : Nat} (hq : q < ag.length) : ag.drop q = agAt ag q :: ag.drop (q + 1) := by
  rw [List.drop_eq_getElem_cons hq]
  have e : agAt ag q = ag[q] := by simp [agAt, hq]
  rw [e]
theorem IO.base (h : IO w wr l j ag q out v8 A9 c9) {k : Nat} (hk : (Value.slice A9 out.length c9).ownBlock = some k) : w.heap.size + 1 ≤ k ∧ k < wr.heap.size := h.fine.lt k hk
/-- A window more. -/
theorem IO.add {a : Ag} {v' : Value} (h : IO w wr l j ag q out v8 A9 c9) (hq : q < ag.length) (ha : agAt ag q = a) (hok : a.ok) (hn : ¬ (0 < out.length ∧ (agAt out (out.length - 1)).fr = a.fr))
    (ho : wr'.ownsRow (w.heap.size + 1) 50 7 v' (out.length + 1) (aggV (out ++ [a]))) (hg : wr.grownBy wr' (Value.slice A9 out.length c9).ownBlock) :
    ∃ A' c', v' = .slice A' (out ++ [a]).length c' ∧ IO w wr' l j ag (q + 1) (out ++ [a]) v8 A' c' := by
  obtain ⟨A', c', rfl⟩ := own_slc ho
  have hl : (out ++ [a]).length = out.length + 1 := by simp
  refine ⟨A', c', by rw [hl], ?_⟩
  have hb : Below (w.heap.size + 1) wr wr' := ((Below.refl wr.heap.size wr).mono h.lt).grown hg h.lt (fun k e => (h.base e).1)
  refine ⟨h.raw.kept hg (apart_types h.raw h.fine (by decide)), by rw [hl]; exact ho, fun x hx => ?_, ?_, ?_, h.below.trans (hb.mono (Nat.le_succ _)), by rw [hl]; have := h.len; omega, fun o ho => by rw [hb.cell (by simp)]; exact h.six o ho⟩
  · rcases List.mem_append.1 hx with hx | hx
    · exact h.okf x hx
    · rw [List.mem_singleton] at hx; rw [hx]; exact hok
  · rw [h.says, drop_ag hq, ha, meetOn_new hn]
  · exact h.res.of (fun i => hb.cell (by simp)) (fun i => hb.frozen (by simp))
/-- The last window joined with one more. -/
theorem IO.put {a ja : Ag} {gv : Nat} (h : IO w wr l j ag q out v8 (some ⟨gv, 0, none⟩) c9) (hq : q < ag.length) (ha : agAt ag q = a) (hm : 0 < out.length ∧ (agAt out (out.length - 1)).fr = a.fr) (hj : join (agAt out (out.length - 1)) a = (ja, 0)) (hok : ja.ok) {o : Nat} (hoo : o = (out.length - 1) * 7) :
    IO w (((((((wr.setCell ⟨gv, o, none⟩ (.int .i64 ja.fr)).setCell ⟨gv, o + 1, none⟩ (.int .i64 ja.cn)).setCell ⟨gv, o + 2, none⟩ (.int .i64 ja.sm)).setCell ⟨gv, o + 3, none⟩ (.int .i64 ja.mn)).setCell ⟨gv, o + 4, none⟩ (.int .i64 ja.mx)).setCell ⟨gv, o + 5, none⟩ (.int .i64 ja.fi)).setCell ⟨gv, o + 6, none⟩ (.int .i64 ja.la)) l j ag (q + 1) (out.set (out.length - 1) ja) v8 (some ⟨gv, 0, none⟩) c9 := by
  subst hoo
  have hgv := h.base (k := gv) rfl
  have hap : v8.ownBlock ≠ some gv := by
    rcases apart_types h.raw h.fine (by decide) with e | e
    · rw [e]; intro e2; cases e2
    · exact e
  have hls : (out.set (out.length - 1) ja).length = out.length := List.length_set
  have hne : w.heap.size ≠ gv := by omega
  refine ⟨?_, ?_, fun x hx => ?_, ?_, ?_, below_set7 h.below (by omega), by rw [hls]; have := h.len; omega, fun o ho => ?_⟩
  · exact ownsRow_setCell_other (ownsRow_setCell_other (ownsRow_setCell_other (ownsRow_setCell_other (ownsRow_setCell_other (ownsRow_setCell_other (ownsRow_setCell_other h.raw hap _) hap _) hap _) hap _) hap _) hap _) hap _
  · rw [hls, ← aggV_set ja out (out.length - 1) (by omega)]
    exact ((((((((((((((h.fine).stored ((out.length - 1) * 7) (.int .i64 ja.fr)).1).stored ((out.length - 1) * 7 + 1) (.int .i64 ja.cn)).1).stored ((out.length - 1) * 7 + 2) (.int .i64 ja.sm)).1).stored ((out.length - 1) * 7 + 3) (.int .i64 ja.mn)).1).stored ((out.length - 1) * 7 + 4) (.int .i64 ja.mx)).1).stored ((out.length - 1) * 7 + 5) (.int .i64 ja.fi)).1).stored ((out.length - 1) * 7 + 6) (.int .i64 ja.la)).1
  · rcases List.mem_or_eq_of_mem_set hx with hx | rfl
    · exact h.okf x hx
    · exact hok
  · rw [h.says, drop_ag hq, ha, meetOn_step hm, hj]
    simp
  · refine h.res.of (fun i => ?_) (fun i => ?_)
    · exact (((((((cell_other hne).trans (cell_other hne)).trans (cell_other hne)).trans (cell_other hne)).trans (cell_other hne)).trans (cell_other hne)).trans (cell_other hne))
    · simp only [World.frozen?_setCell]
  · exact (((((((cell_other hne).trans (cell_other hne)).trans (cell_other hne)).trans (cell_other hne)).trans (cell_other hne)).trans (cell_other hne)).trans (cell_other hne)).trans (h.six o ho)
end
theorem SgV.set5 {w : World} {g : Nat} {i k f t : Int} {a b : Value} (h : SgV w g i k f t a b) (v : Value) : SgV (w.setCell ⟨g, 5, none⟩ v) g i k f t a v := by
  obtain ⟨c0, c1, c2, c3, c4, c5, z0, z1, z2, z3, z4, z5⟩ := h
  constructor <;> simp [go_sem, *]
theorem roll_bad {l : List Sg} {id k : Int} {j : Nat} {i' k' f' t' : Int} {sm : List (Int × Int)} {ag : List Ag} {c : Int} (hL : l.length = 2) (hid : 1 ≤ id ∧ id ≤ 1073741824) (hk : coarse k) (hrow : (⟨i', k', f', t', sm, ag⟩ : Sg).may ∧ k' = k - 1 ∧ (0 < j → (⟨i', k', f', t', sm, ag⟩ : Sg).fr = (sgAt l (j - 1)).tz))
    (hall : ∀ i, i < j + 1 → rowAt l (k - 1) i) (hj : j < 2) (hs : sgAt l j = ⟨i', k', f', t', sm, ag⟩) (hag : 0 < ag.length) (hc : (meetOn [] (agN l (j + 1))).2 = c) (hz : c ≠ 0) : rollS l id k = (Sg.zero, c) := by
  have hm := hrow.1
  have hj1 : j = 1 := by
    refine Classical.byContradiction (fun h => hz ?_)
    obtain rfl : j = 0 := by omega
    have e : agN l 1 = ag := by
      rw [agN_succ (by omega), hs]
      simp [agN]
    rw [e, show ag = (⟨i', k', f', t', sm, ag⟩ : Sg).ag from rfl, seg_meet hm] at hc
    exact hc.symm
  subst hj1
  have hch : chain k l := by
    have h1 := (chain_iff (q := k - 1) l).2 ⟨by omega, fun i hi => hall i (by omega)⟩
    rw [show k - 1 + 1 = k by omega] at h1
    exact h1
  have hk1 : k ≠ 1 := fun e => by
    have hA := ((may_split _).1 hm).2.2.2.2
    simp only at hA
    rw [if_pos (by have := hrow.2.1; omega)] at hA
    omega
  have hall2 : agN l 2 = l.flatMap Sg.ag := by rw [← hL, agN_all]
  unfold rollS
  rw [if_pos ⟨hid, hk, hch⟩]
  unfold rollAll
  rw [if_neg hk1, ← hall2, if_neg (by rw [hc]; exact hz), hc]
  unfold rollEnd
  rw [if_pos hz]
end Go.Proofs.YtepancmkopifpaaGreatDoor
