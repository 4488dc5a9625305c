/-
  The document's Fold: what it keeps between two rounds; where an Id stands.
  The document's Fold: what entries come to; nothing that was there is written.
-/
import Derived.Test.YtdpoahjgdndnhaaDoorDFind
import Derived.Test.YtdpoahjgdndnhaaDoorDMayE
import Derived.Test.YtdpoahjgdndnhaaDoorDParse
import Derived.Test.YtdpoahjgdndnhaaDoorERowS
import Derived.Deep.DrawnRows
import Derived.BigRegion
import Derived.Deep.RegionLaw
set_option maxRecDepth 100000
namespace Go.Proofs.YtdpoahjgdndnhaaDoor
open Go.RowKit
set_option linter.unusedVariables false

theorem fnd_none (i : Int) : ∀ (l : List Inf) (k : Nat), fnd i k l < 0 ↔ i ∉ l.map Inf.id
  | [], k => by simp [fnd]
  | x :: r, k => by
    unfold fnd
    split
    · next h =>
      constructor
      · intro h1; omega
      · intro h1; exact absurd (by simp [h]) h1
    · next h =>
      rw [fnd_none i r (k + 1), List.map_cons, List.mem_cons]
      constructor
      · rintro h1 (h2 | h2)
        · exact h h2.symm
        · exact h1 h2
      · exact fun h1 h2 => h1 (.inr h2)
theorem fnd_at (i : Int) : ∀ (l : List Inf) (k : Nat), ¬ fnd i k l < 0 → ∃ a, fnd i k l = ((k + a : Nat) : Int) ∧ a < l.length ∧ (l.getD a Inf.zero).id = i
  | [], k, h => by simp [fnd] at h
  | x :: r, k, h => by
    unfold fnd at h ⊢
    split at h
    · next hx => exact ⟨0, by rw [if_pos hx]; rfl, by simp, by simpa using hx⟩
    · next hx =>
      obtain ⟨a, e1, e2, e3⟩ := fnd_at i r (k + 1) h
      exact ⟨a + 1, by rw [if_neg hx, e1]; omega, by simpa using e2, by simpa using e3⟩
theorem filter_cut : ∀ (l : List Inf) (a : Nat) (i : Int), (l.map Inf.id).Pairwise (· < ·) → a < l.length → (l.getD a Inf.zero).id = i → l.filter (fun x => x.id ≠ i) = l.take a ++ l.drop (a + 1)
  | [], a, i, _, h, _ => by simp at h
  | x :: r, 0, i, hp, _, he => by
    have he' : x.id = i := by simpa using he
    rw [List.map_cons, List.pairwise_cons] at hp
    rw [List.filter_cons_of_neg (by simp [he'])]
    rw [List.take_zero, List.nil_append, List.drop_succ_cons, List.drop_zero, List.filter_eq_self]
    intro y hy
    have := hp.1 y.id (List.mem_map.2 ⟨y, hy, rfl⟩)
    simp
    omega
  | x :: r, a + 1, i, hp, h, he => by
    have h' : a < r.length := by simpa using h
    have he' : (r.getD a Inf.zero).id = i := by simpa using he
    rw [List.map_cons, List.pairwise_cons] at hp
    have hm : (r.getD a Inf.zero) ∈ r := by
      rw [List.getD_eq_getElem?_getD, List.getElem?_eq_getElem h']
      exact List.getElem_mem h'
    have := hp.1 _ (List.mem_map.2 ⟨_, hm, rfl⟩)
    rw [List.filter_cons_of_pos (by simp; omega), filter_cut r a i hp.2 h' he']
    rfl
theorem own_slice {w : World} {base n size : Nat} {e : TypeId} {v : Value} {xs : List Value} (h : w.ownsRow base e size v n xs) : ∃ A cap, v = .slice A n cap := by
  rcases h.2 with ⟨e1, e0⟩ | ⟨g, cap, cur, e1, _⟩
  · exact ⟨none, 0, by rw [e1, e0]⟩
  · exact ⟨_, cap, e1⟩
theorem infRow_slice {w : World} {base n cap : Nat} {A : Option Addr} {l : List Inf} (h : w.ownsRow base 50 5 (.slice A n cap) n (infsV l)) : InfRow w A n cap l := by
  obtain ⟨A', cap', e, hr, _⟩ := infRow_own h
  injection e with e1 _ e3
  subst e1
  subst e3
  exact hr
/-- append of one Id onto a row of Ids. -/
theorem wpList_append_evs {w : World} {ops : Array Oper} {rest : List Oper} {o : Oper} {a : Act} {Q : Exit → Act → World → Prop} (hgd : o.guard = none) (s x : Operand)
    (ho : o.op = .call { callee := .builtin .append, args := #[s, x], argTypes := #[46, 46] }) (base : Nat) (v : Value) (n : Nat) (l : List Int) (y : Int) (hs : a.eval s = v) (hown : w.ownsRow base 3 1 v n (intV l))
    (b c : Nat) (hx : a.eval x = .slice (some ⟨b, 0, none⟩) 1 c) (hc : w.cell? ⟨b, 0, none⟩ = some (.int .i64 y)) (hlen : n ≤ 1000) (hbase : base ≤ w.heap.size)
    (h : ∀ v' w', w'.ownsRow base 3 1 v' (n + 1) (intV (l ++ [y])) → w.grownBy w' v.ownBlock → wpList Tryd.prog ops Q rest (a.put o.dst v') w') : wpList Tryd.prog ops Q (o :: rest) a w := by
  obtain ⟨i0', hi, hz0, hz1, hz2⟩ := info_parts Tryd.info3
  have hcx : ∀ j u, (intV [y])[j]? = some u → w.cell? ((⟨b, 0, Option.none⟩ : Addr).add j) = some u := fun j u hj => by
    have hj0 : j = 0 := by
      have := (List.getElem?_eq_some_iff.1 hj).1
      simp [intV] at this
      omega
    subst hj0
    simp [intV] at hj
    rw [addr_add, ← hj]
    exact hc
  refine wpList_append_own w hgd s x 46 ho base 3 i0' (.int .i64 0) 1 8 Tryd.underlying46 hi hz0 hz1 hz2 rfl (by decide) v n (intV l) hs hown ⟨b, 0, Option.none⟩ 1 c (intV [y]) hx rfl hcx (intV_one _) (by unfold maxLen; omega) (by omega) hbase ?_
  intro v' w' h1 h2 _
  exact h v' w' (by rw [intV_append]; exact h1) h2

theorem pholdB {w w' : World} {g B : Nat} {p : Pol} (h : PHold w g p) (hg : g < B) (hb : Below B w w') : PHold w' g p := by
  obtain ⟨h0, h1, h2, h3, h4, h5⟩ := h
  exact ⟨by rw [hb.cell hg]; exact h0, by rw [hb.cell hg]; exact h1, by rw [hb.cell hg]; exact h2, by rw [hb.cell hg]; exact h3, by rw [hb.cell hg]; exact h4, by rw [hb.cell hg]; exact h5⟩
/-- Between two rounds: ws is the world ahead of the first, wr the one now. -/
structure DFI (w ws wr : World) (g3 g8 : Nat) (th : List Inf) (ev : List Int) (ru : Pol) (v6 : Value) (A7 : Option Addr) (c7 : Nat) : Prop where
  o6 : wr.ownsRow ws.heap.size 50 5 v6 th.length (infsV th)
  o7 : wr.ownsRow ws.heap.size 3 1 (.slice A7 ev.length c7) ev.length (intV ev.reverse)
  hp : PHold wr g8 ru
  hz : PHold wr g3 Pol.zero
  fp : Open6 wr g8
  fz : Open6 wr g3
  below : Below w.heap.size w wr
  bs : ws.heap.size ≤ wr.heap.size
  n3 : w.heap.size ≤ g3 ∧ g3 < ws.heap.size
  n8 : w.heap.size ≤ g8 ∧ g8 < ws.heap.size
  ne : g3 ≠ g8
theorem DFI.on {w ws wr wr' : World} {g3 g8 : Nat} {th : List Inf} {ev : List Int} {ru : Pol} {v6 : Value} {A7 : Option Addr} {c7 : Nat} (h : DFI w ws wr g3 g8 th ev ru v6 A7 c7) (hb : Below wr.heap.size wr wr') : DFI w ws wr' g3 g8 th ev ru v6 A7 c7 :=
  have l3 : g3 < wr.heap.size := Nat.lt_of_lt_of_le h.n3.2 h.bs
  have l8 : g8 < wr.heap.size := Nat.lt_of_lt_of_le h.n8.2 h.bs
  ⟨ownRow_below h.o6 hb, ownRow_below h.o7 hb, h.hp.below l8 hb, h.hz.below l3 hb, h.fp.below l8 hb, h.fz.below l3 hb, past h.below hb, Nat.le_trans h.bs hb.size, h.n3, h.n8, h.ne⟩
/-- A new row of what is there. -/
theorem DFI.rows {w ws wr wr' : World} {g3 g8 : Nat} {th th' : List Inf} {ev : List Int} {ru : Pol} {v6 v6' : Value} {A7 : Option Addr} {c7 : Nat} (h : DFI w ws wr g3 g8 th ev ru v6 A7 c7) (hb : Below wr.heap.size wr wr') {base : Nat} (hbase : wr.heap.size ≤ base)
    (ho : wr'.ownsRow base 50 5 v6' th'.length (infsV th')) : DFI w ws wr' g3 g8 th' ev ru v6' A7 c7 := by
  have h' := h.on hb
  exact ⟨own_base ho (Nat.le_trans h.bs hbase), h'.o7, h'.hp, h'.hz, h'.fp, h'.fz, h'.below, h'.bs, h'.n3, h'.n8, h'.ne⟩
theorem DFI.o7' {w ws wr : World} {g3 g8 : Nat} {th : List Inf} {ev : List Int} {ru : Pol} {v6 : Value} {A7 : Option Addr} {c7 : Nat} (h : DFI w ws wr g3 g8 th ev ru v6 A7 c7) : wr.ownsRow ws.heap.size 3 1 (.slice A7 ev.reverse.length c7) ev.reverse.length (intV ev.reverse) := by
  rw [List.length_reverse]
  exact h.o7
/-- One Id more. -/
theorem DFI.ever {w ws wr wr' : World} {g3 g8 : Nat} {th : List Inf} {ev : List Int} {ru : Pol} {v6 v' : Value} {A7 : Option Addr} {c7 : Nat} (h : DFI w ws wr g3 g8 th ev ru v6 A7 c7) {y : Int}
    (ho : wr'.ownsRow ws.heap.size 3 1 v' (ev.length + 1) (intV (ev.reverse ++ [y]))) (hg : wr.grownBy wr' (Value.slice A7 ev.length c7).ownBlock) :
    Below ws.heap.size wr wr' ∧ ∃ A' c', v' = .slice A' (ev.length + 1) c' ∧ DFI w ws wr' g3 g8 th (y :: ev) ru v6 A' c' := by
  have hb : Below ws.heap.size wr wr' := ((Below.refl wr.heap.size wr).mono h.bs).grown hg h.bs (fun k e => (h.o7.lt k e).1)
  refine ⟨hb, ?_⟩
  obtain ⟨A', c', rfl⟩ := own_slice ho
  refine ⟨A', c', rfl, ?_⟩
  have hbw : Below w.heap.size w wr' := by
    refine h.below.trans (hb.mono ?_)
    exact Nat.le_trans h.n3.1 (Nat.le_of_lt h.n3.2)
  refine ⟨h.o6.kept hg (typed_apart (base2 := ws.heap.size) h.o6 (.inl h.o7') (by decide)), ?_, pholdB h.hp h.n8.2 hb, pholdB h.hz h.n3.2 hb, fun i hi => ?_, fun i hi => ?_, hbw, Nat.le_trans h.bs hb.size, h.n3, h.n8, h.ne⟩
  · rw [List.reverse_cons]
    exact ho
  · rw [hb.frozen (p := ⟨g8, i, none⟩) h.n8.2]; exact h.fp i hi
  · rw [hb.frozen (p := ⟨g3, i, none⟩) h.n3.2]; exact h.fz i hi
/-- The rule is stored. -/
theorem DFI.rule {w ws wr : World} {g3 g8 : Nat} {th : List Inf} {ev : List Int} {ru : Pol} {v6 : Value} {A7 : Option Addr} {c7 : Nat} (h : DFI w ws wr g3 g8 th ev ru v6 A7 c7) (p : Pol) :
    DFI w ws ((((((wr.setCell ⟨g8, 0, none⟩ (.int .i64 p.a0)).setCell ⟨g8, 1, none⟩ (.int .i64 p.a1)).setCell ⟨g8, 2, none⟩ (.int .i64 p.a2)).setCell ⟨g8, 3, none⟩ (.int .i64 p.a3)).setCell ⟨g8, 4, none⟩ (.int .i64 p.cn)).setCell ⟨g8, 5, none⟩ (.int .i64 p.sp)) g3 g8 th ev p v6 A7 c7 := by
  have hl : g8 < ws.heap.size := h.n8.2
  have hne : g3 ≠ g8 := h.ne
  refine ⟨ownsRow_setCell_below (ownsRow_setCell_below (ownsRow_setCell_below (ownsRow_setCell_below (ownsRow_setCell_below (ownsRow_setCell_below h.o6 hl _) hl _) hl _) hl _) hl _) hl _,
    ownsRow_setCell_below (ownsRow_setCell_below (ownsRow_setCell_below (ownsRow_setCell_below (ownsRow_setCell_below (ownsRow_setCell_below h.o7 hl _) hl _) hl _) hl _) hl _) hl _, ?_, ?_,
    open_set (open_set (open_set (open_set (open_set (open_set h.fp))))), open_set (open_set (open_set (open_set (open_set (open_set h.fz))))), below_set6 h.below h.n8.1, by simpa using h.bs, h.n3, h.n8, h.ne⟩
  · have q := putD_hold p.sp (putD_hold p.cn (putD_hold p.a3 (putD_hold p.a2 (putD_hold p.a1 (putD_hold p.a0 h.hp (show 0 < 6 by decide)) (show 1 < 6 by decide)) (show 2 < 6 by decide)) (show 3 < 6 by decide)) (show 4 < 6 by decide)) (show 5 < 6 by decide)
    exact q
  · obtain ⟨a0, a1, a2, a3, a4, a5⟩ := h.hz
    exact ⟨by simp only [setOther _ _ _ _ _ _ hne]; exact a0, by simp only [setOther _ _ _ _ _ _ hne]; exact a1, by simp only [setOther _ _ _ _ _ _ hne]; exact a2, by simp only [setOther _ _ _ _ _ _ hne]; exact a3, by simp only [setOther _ _ _ _ _ _ hne]; exact a4, by simp only [setOther _ _ _ _ _ _ hne]; exact a5⟩
end Go.Proofs.YtdpoahjgdndnhaaDoor
set_option maxRecDepth 100000
namespace Go.Proofs.YtdpoahjgdndnhaaDoor
open Go.RowKit
attribute [local go_sem ↓] Go.wp_at_zero Go.wp_at_succ
set_option linter.unusedVariables false

def DFPost (w : World) (R : List Inf × Pol × Int × Int) (e : Ending) (w' : World) : Prop :=
  ∃ (A' : Option Addr) (cap' : Nat), e = .returned (.tuple #[.slice A' R.1.length cap', R.2.1.val, .int .i64 R.2.2.1, .int .i64 R.2.2.2]) ∧ InfRow w' A' R.1.length cap' R.1 ∧ Below w.heap.size w w'
theorem fold_bad {l : List Ent} {m : Man} {c : Int} (h : foldOn Man.zero l = (m, c)) (hc : c ≠ 0) : fold l = ([], Pol.zero, 0, c) := by
  unfold fold
  rw [h]
  simp [hc]
set_option maxHeartbeats 8000000 in
theorem dfold_in {A : Option Addr} {n cap : Nat} {l : List Ent} {w : World} (h : EntRow w A n cap l) (hn : n ≤ 900) (ht : ∀ e ∈ l, e.tx.length ≤ 1000000) :
    Calls Tryd.prog 19 #[.slice A n cap] w (DFPost w (fold l)) := by
  have M0 := Lib.hid (fun w => refdefault_any w)
  unfold Pol.dflt Pol.val at M0
  have H := Lib.hid h
  have HN := Lib.hid hn
  have HT := Lib.hid ht
  obtain ⟨R, hR⟩ : ∃ R, R = fold l := ⟨_, rfl⟩
  rw [← hR]
  have HR := Lib.hid hR
  clear h hR hn ht
  go_enter Tryd.func19, Tryd.ntmps19
  go_wp2_with fail
  refine (M0.out _).mono ?_
  rintro e w2 ⟨rfl, hb2⟩
  go_upto_region 4 with fail
  have hb1 : Below w.heap.size w w2 := past (below_box w _) hb2
  have hs2 : w.heap.size < w2.heap.size := by have := hb2.size; simp at this; omega
  have HST : Hid (DFI w (w2.alloc (.cells #[.int .i64 60, .int .i64 600, .int .i64 6000, .int .i64 0, .int .i64 8, .int .i64 30] 39)) (w2.alloc (.cells #[.int .i64 60, .int .i64 600, .int .i64 6000, .int .i64 0, .int .i64 8, .int .i64 30] 39)) w.heap.size w2.heap.size [] [] Pol.dflt (.slice none 0 0) none 0) := Lib.hid (by
    have hbn : Below w2.heap.size w2 (w2.alloc (.cells #[.int .i64 60, .int .i64 600, .int .i64 6000, .int .i64 0, .int .i64 8, .int .i64 30] 39)) := below_box _ _
    have hz0 : PHold w2 w.heap.size Pol.zero := PHold.below (w := (w.alloc (.cells #[.int .i64 0, .int .i64 0, .int .i64 0, .int .i64 0, .int .i64 0, .int .i64 0] 39))) (by unfold PHold Pol.zero; simp) (by simp) hb2
    have hf0 : Open6 w2 w.heap.size := Open6.below (w := (w.alloc (.cells #[.int .i64 0, .int .i64 0, .int .i64 0, .int .i64 0, .int .i64 0, .int .i64 0] 39))) (fun i hi => by simp) (by simp) hb2
    refine ⟨World.ownsRow_nil _ _ _ _, World.ownsRow_nil _ _ _ _, by unfold PHold Pol.dflt; simp, hz0.below hs2 hbn, fun i hi => by simp, hf0.below hs2 hbn, past hb1 hbn, Nat.le_refl _, ⟨Nat.le_refl _, by simp; omega⟩, ⟨Nat.le_of_lt hs2, by simp⟩, Nat.ne_of_lt hs2⟩)
  clear hb2 hb1 hs2 M0
  generalize (w2.alloc (.cells #[.int .i64 60, .int .i64 600, .int .i64 6000, .int .i64 0, .int .i64 8, .int .i64 30] 39)) = ws at *
  generalize w2.heap.size = g8 at *
  go_wp2
  go_loopw [6, 7, 9, 10, 11, 12, 13, 14] (fun s6 s7 s9 s10 s11 s12 s13 s14 wr => ∃ (i : Nat) (m : Man) (A6 A7 : Option Addr) (c6 c7 : Nat), s6 = .slice A6 m.th.length c6 ∧ s7 = .slice A7 m.ev.length c7 ∧ s9 = .int .i64 m.vw ∧ s10 = .int .i64 m.la ∧ s11 = .int .i64 (i : Int) ∧ i ≤ n ∧
      Hid (DFI w ws wr w.heap.size g8 m.th m.ev m.ru (.slice A6 m.th.length c6) A7 c7) ∧ Hid (m.Good i ∧ foldOn Man.zero l = foldOn m (l.drop i))) (fun _ _ _ _ s11 _ _ _ _ => n - (intOf s11).toNat)
  case atStart =>
    exact ⟨0, Man.zero, none, none, 0, 0, rfl, rfl, rfl, rfl, rfl, Nat.zero_le _, HST, Lib.hid ⟨Man.Good.zero, by rw [List.drop_zero]⟩⟩
  case round =>
    obtain ⟨i, m, A6, A7, c6, c7, rfl, rfl, rfl, rfl, rfl, hin, HD, HG⟩ := hrel
    clear HST
    by_cases hi : i < n
    case neg =>
      obtain rfl : i = n := by omega
      have HRR : Hid (R = (m.th, m.ru, m.vw, 0)) := Lib.hid (by
        rw [HR.out]
        have hs := HG.out.2
        rw [List.drop_of_length_le (by rw [H.out.len]; exact Nat.le_refl _)] at hs
        unfold fold
        rw [hs]
        rfl)
      have hi' : ¬ (i : Int) < (i : Int) := by omega
      obtain ⟨z0, z1, z2, z3, z4, z5⟩ := HD.out.hz
      have f0 := HD.out.fz 0 (by decide)
      have f1 := HD.out.fz 1 (by decide)
      have f2 := HD.out.fz 2 (by decide)
      have f3 := HD.out.fz 3 (by decide)
      have f4 := HD.out.fz 4 (by decide)
      have f5 := HD.out.fz 5 (by decide)
      obtain ⟨p0, p1, p2, p3, p4, p5⟩ := HD.out.hp
      have hne := HD.out.ne
      have HO := Lib.hid HD.out.o6
      have HLT := Lib.hid HD.out.n3.2
      have HBL := Lib.hid HD.out.below
      clear HG HD
      obtain ⟨th, ev, ⟨u0, u1, u2, u3, u4, u5⟩, vw, la⟩ := m
      unfold Pol.zero at z0 z1 z2 z3 z4 z5
      simp only at *
      have HEND : Hid (DFPost w R (.returned (.tuple #[.slice A6 th.length c6, .agg #[.int .i64 u0, .int .i64 u1, .int .i64 u2, .int .i64 u3, .int .i64 u4, .int .i64 u5], .int .i64 vw, .int .i64 0])) ((((((wr.setCell ⟨w.heap.size, 0, none⟩ (.int .i64 u0)).setCell ⟨w.heap.size, 1, none⟩ (.int .i64 u1)).setCell ⟨w.heap.size, 2, none⟩ (.int .i64 u2)).setCell ⟨w.heap.size, 3, none⟩ (.int .i64 u3)).setCell ⟨w.heap.size, 4, none⟩ (.int .i64 u4)).setCell ⟨w.heap.size, 5, none⟩ (.int .i64 u5)).drew) := Lib.hid (by
        have hl := HLT.out
        have ho := ownsRow_setCell_below (ownsRow_setCell_below (ownsRow_setCell_below (ownsRow_setCell_below (ownsRow_setCell_below (ownsRow_setCell_below HO.out (a := ⟨w.heap.size, 0, none⟩) hl (.int .i64 u0)) (a := ⟨w.heap.size, 1, none⟩) hl (.int .i64 u1)) (a := ⟨w.heap.size, 2, none⟩) hl (.int .i64 u2)) (a := ⟨w.heap.size, 3, none⟩) hl (.int .i64 u3)) (a := ⟨w.heap.size, 4, none⟩) hl (.int .i64 u4)) (a := ⟨w.heap.size, 5, none⟩) hl (.int .i64 u5)
        have hb := below_set6 (o0 := 0) (o1 := 1) (o2 := 2) (o3 := 3) (o4 := 4) (o5 := 5) (v0 := .int .i64 u0) (v1 := .int .i64 u1) (v2 := .int .i64 u2) (v3 := .int .i64 u3) (v4 := .int .i64 u4) (v5 := .int .i64 u5) HBL.out (Nat.le_refl w.heap.size)
        generalize (((((wr.setCell ⟨w.heap.size, 0, none⟩ (.int .i64 u0)).setCell ⟨w.heap.size, 1, none⟩ (.int .i64 u1)).setCell ⟨w.heap.size, 2, none⟩ (.int .i64 u2)).setCell ⟨w.heap.size, 3, none⟩ (.int .i64 u3)).setCell ⟨w.heap.size, 4, none⟩ (.int .i64 u4)).setCell ⟨w.heap.size, 5, none⟩ (.int .i64 u5) = X at *
        have hd : Below X.heap.size X X.drew := below_drewN X 1
        rw [HRR.out]
        exact ⟨A6, c6, rfl, infRow_slice (ownRow_below ho hd), past hb hd⟩)
      clear hi' hi hin HN HT H HRR HO HLT HBL
      go_upto_region 31 with fail
      go_region
      go_wp2
      (try rw [Exit.noGoto_ret])
      refine bodyPost_ret ?_ rfl HEND.out
      simp [results, Tryd.results19, go_sem, z0, z1, z2, z3, z4, z5]
    have hi' : (i : Int) < (n : Int) := by omega
    have hi0 : (0 : Int) ≤ (i : Int) := by omega
    obtain ⟨b, off, hA, hbl, hcs⟩ := (H.out.below HD.out.below).cells (by omega)
    obtain ⟨c0, c1, c2, c3, c4, c5, c6_, c7_⟩ := hcs i hi
    have hlen : i < l.length := by rw [H.out.len]; exact hi
    have HE : Hid ((l.getD i Ent.zero).ok) := Lib.hid (H.out.ok _ (getD_mem_ent hlen))
    have HTX : Hid ((l.getD i Ent.zero).tx.length ≤ 1000000) := Lib.hid (HT.out _ (getD_mem_ent hlen))
    have HSY : Hid (foldOn Man.zero l = if m.fault (l.getD i Ent.zero) = 0 then foldOn (m.take (l.getD i Ent.zero)) (l.drop (i + 1)) else (m, m.fault (l.getD i Ent.zero))) := Lib.hid (by rw [HG.out.2, foldOn_step hlen])
    subst hA
    generalize l.getD i Ent.zero = e at *
    clear hcs hbl hlen
    have HB0 := Lib.hid (EBox.new wr e)
    have HGT : Hid (m.fault e = 0 → (m.take e).Good (i + 1)) := Lib.hid (fun h => HG.out.1.take HE.out h)
    have hl1 : m.th.length ≤ i := HG.out.1.len.1
    have hl2 : m.ev.length ≤ i := HG.out.1.len.2
    have HASC := Lib.hid HG.out.1.asc
    have hle6 : m.th.length ≤ c6 ∧ c6 ≤ maxLen := by
      have h := infRow_slice HD.out.o6
      exact ⟨h.le, h.max⟩
    obtain ⟨W, hW⟩ : ∃ W, W = wr.alloc (.cells #[.int .i64 e.kd, .int .i64 e.vw, .int .i64 e.id, .int .i64 e.tr, .int .i64 e.fr, .int .i64 e.tl, .int .u32 e.sm, .string ⟨e.tx.toArray⟩] 25) := ⟨_, rfl⟩
    have hbW : Below wr.heap.size wr W := by rw [hW]; exact below_box _ _
    rw [← hW] at HB0
    have HWH := Lib.hid hW
    have HDW := Lib.hid (HD.out.on hbW)
    have HGE : Hid (some wr.heap.size ≠ (Value.slice A7 m.ev.length c7).ownBlock) := Lib.hid (fun e2 => by
      have := (HD.out.o7.lt _ e2.symm).2
      omega)
    have HGW : Hid (∀ u, Below W.heap.size W u → wr.heap.size < u.heap.size) := Lib.hid (fun u hu => Nat.lt_of_lt_of_le (by rw [hW]; simp) hu.size)
    have M1 := Lib.hid (find_any e.id (infRow_slice HDW.out.o6))
    have M2 := Lib.hid (dmay_any e W HTX.out)
    unfold MayPost at M2
    clear hbW hW HD HG
    unfold Ent.val str at M2
    unfold str at c7_
    go_upto_region 8 with fail
    rw [← HWH.out]
    clear HWH c0 c1 c2 c3 c4 c5 c6_ c7_
    have d0 := HB0.out.c0 ⟨W, Below.refl _ _⟩
    have d1 := HB0.out.c1 ⟨W, Below.refl _ _⟩
    have d2 := HB0.out.c2 ⟨W, Below.refl _ _⟩
    have d3 := HB0.out.c3 ⟨W, Below.refl _ _⟩
    have d4 := HB0.out.c4 ⟨W, Below.refl _ _⟩
    have d5 := HB0.out.c5 ⟨W, Below.refl _ _⟩
    have d6 := HB0.out.c6 ⟨W, Below.refl _ _⟩
    have d7 := HB0.out.c7 ⟨W, Below.refl _ _⟩
    simp only [SubB.w] at d0 d1 d2 d3 d4 d5 d6 d7
    go_wp2_with fail
    refine M1.out.mono ?_
    rintro en _ ⟨rfl, rfl⟩
    obtain ⟨FN, hFN⟩ : ∃ FN, FN = fnd e.id 0 m.th := ⟨_, rfl⟩
    rw [← hFN]
    have HFN := Lib.hid hFN
    clear hFN
    go_wp2_with fail
    refine M2.out.mono ?_
    rintro en W3 ⟨rfl, hb3⟩
    clear d0 d1 d2 d3 d4 d5 d6 d7 M1 M2
    have HD3 := Lib.hid (HDW.out.on hb3)
    have HB3 : Hid (∀ k v, W.cell? ⟨wr.heap.size, k, none⟩ = some v → W3.cell? ⟨wr.heap.size, k, none⟩ = some v) := Lib.hid (fun k v h => by rw [hb3.cell (HGW.out W (Below.refl _ _))]; exact h)
    have d0 := HB0.out.c0 ⟨W3, hb3⟩
    have d1 := HB0.out.c1 ⟨W3, hb3⟩
    have d2 := HB0.out.c2 ⟨W3, hb3⟩
    have d3 := HB0.out.c3 ⟨W3, hb3⟩
    have d4 := HB0.out.c4 ⟨W3, hb3⟩
    have d5 := HB0.out.c5 ⟨W3, hb3⟩
    have d6 := HB0.out.c6 ⟨W3, hb3⟩
    have d7 := HB0.out.c7 ⟨W3, hb3⟩
    simp only [SubB.w] at d0 d1 d2 d3 d4 d5 d6 d7
    have HG3 : Hid (wr.heap.size < W3.heap.size) := Lib.hid (HGW.out W3 hb3)
    clear hb3 HB0 HGW HDW
    by_cases hm : e.may
    case neg =>
      have hF : m.fault e = 1 := by unfold Man.fault; rw [if_pos hm]
      rw [decide_eq_false hm]
      have HRR : Hid (R = ([], Pol.zero, 0, 1)) := Lib.hid (by
        rw [HR.out]
        refine fold_bad (m := m) ?_ (by decide)
        rw [HSY.out, if_neg (by rw [hF]; decide), hF])
      obtain ⟨z0, z1, z2, z3, z4, z5⟩ := HD3.out.hz
      have f0 := HD3.out.fz 0 (by decide)
      have f1 := HD3.out.fz 1 (by decide)
      have f2 := HD3.out.fz 2 (by decide)
      have f3 := HD3.out.fz 3 (by decide)
      have f4 := HD3.out.fz 4 (by decide)
      have f5 := HD3.out.fz 5 (by decide)
      unfold Pol.zero at z0 z1 z2 z3 z4 z5
      simp only at z0 z1 z2 z3 z4 z5
      clear hm
      go_wp2
      (try rw [Exit.noGoto_ret])
      refine bodyPost_ret (v := .tuple #[.slice none 0 0, .agg #[.int .i64 0, .int .i64 0, .int .i64 0, .int .i64 0, .int .i64 0, .int .i64 0], .int .i64 0, .int .i64 1]) ?_ rfl ⟨none, 0, ?_, ?_, ?_⟩
      · simp [results, Tryd.results19, go_sem, *]
      · rw [HRR.out]; rfl
      · rw [HRR.out]; exact InfRow.none _
      · exact below_set6 HD3.out.below (Nat.le_refl _)
    rw [decide_eq_true hm]
    have hkd : e.kd = 1 ∨ e.kd = 2 ∨ e.kd = 3 ∨ e.kd = 4 := by
      have h := hm.2.2
      unfold Ent.says at h
      split at h
      · omega
      · split at h
        · omega
        · split at h
          · omega
          · split at h
            · omega
            · exact h.elim
    have HM := Lib.hid hm
    generalize hgE : wr.heap.size = gE at *
    by_cases k1 : e.kd = 1
    case pos =>
      have M3 := has_any e.id HD3.out.o7'
      rw [List.length_reverse] at M3
      simp only [List.mem_reverse] at M3
      have HM3 := Lib.hid M3
      rw [k1] at d0
      clear M3
      by_cases hev : e.id ∈ m.ev
      case pos =>
        have hF : m.fault e = 7 := by unfold Man.fault; rw [if_neg (fun h => h hm), if_pos ⟨k1, hev⟩]
        rw [decide_eq_true hev] at HM3
        go_wp2_with fail
        refine HM3.out.mono ?_
        rintro en _ ⟨rfl, rfl⟩
        have HRR : Hid (R = ([], Pol.zero, 0, 7)) := Lib.hid (by
          rw [HR.out]
          refine fold_bad (m := m) ?_ (by decide)
          rw [HSY.out, if_neg (by rw [hF]; decide), hF])
        obtain ⟨z0, z1, z2, z3, z4, z5⟩ := HD3.out.hz
        have f0 := HD3.out.fz 0 (by decide)
        have f1 := HD3.out.fz 1 (by decide)
        have f2 := HD3.out.fz 2 (by decide)
        have f3 := HD3.out.fz 3 (by decide)
        have f4 := HD3.out.fz 4 (by decide)
        have f5 := HD3.out.fz 5 (by decide)
        unfold Pol.zero at z0 z1 z2 z3 z4 z5
        simp only at z0 z1 z2 z3 z4 z5
        clear hev hm hkd HM3
        go_wp2
        (try rw [Exit.noGoto_ret])
        refine bodyPost_ret (v := .tuple #[.slice none 0 0, .agg #[.int .i64 0, .int .i64 0, .int .i64 0, .int .i64 0, .int .i64 0, .int .i64 0], .int .i64 0, .int .i64 7]) ?_ rfl ⟨none, 0, ?_, ?_, ?_⟩
        · simp [results, Tryd.results19, go_sem, *]
        · rw [HRR.out]; rfl
        · rw [HRR.out]; exact InfRow.none _
        · exact below_set6 HD3.out.below (Nat.le_refl _)
      rw [decide_eq_false hev] at HM3
      by_cases q : e.vw < m.la
      case pos =>
        have hF : m.fault e = 12 := by unfold Man.fault; rw [if_neg (fun h => h hm), if_neg (fun h => hev h.2), if_neg (by omega), if_pos q]
        go_wp2_with fail
        refine HM3.out.mono ?_
        rintro en _ ⟨rfl, rfl⟩
        have HRR : Hid (R = ([], Pol.zero, 0, 12)) := Lib.hid (by
          rw [HR.out]
          refine fold_bad (m := m) ?_ (by decide)
          rw [HSY.out, if_neg (by rw [hF]; decide), hF])
        obtain ⟨z0, z1, z2, z3, z4, z5⟩ := HD3.out.hz
        have f0 := HD3.out.fz 0 (by decide)
        have f1 := HD3.out.fz 1 (by decide)
        have f2 := HD3.out.fz 2 (by decide)
        have f3 := HD3.out.fz 3 (by decide)
        have f4 := HD3.out.fz 4 (by decide)
        have f5 := HD3.out.fz 5 (by decide)
        unfold Pol.zero at z0 z1 z2 z3 z4 z5
        simp only at z0 z1 z2 z3 z4 z5
        clear hev hm hkd HM3
        go_wp2
        (try rw [Exit.noGoto_ret])
        refine bodyPost_ret (v := .tuple #[.slice none 0 0, .agg #[.int .i64 0, .int .i64 0, .int .i64 0, .int .i64 0, .int .i64 0, .int .i64 0], .int .i64 0, .int .i64 12]) ?_ rfl ⟨none, 0, ?_, ?_, ?_⟩
        · simp [results, Tryd.results19, go_sem, *]
        · rw [HRR.out]; rfl
        · rw [HRR.out]; exact InfRow.none _
        · exact below_set6 HD3.out.below (Nat.le_refl _)
      have hF : m.fault e = 0 := by unfold Man.fault; rw [if_neg (fun h => h hm), if_neg (fun h => hev h.2), if_neg (by omega), if_neg q]
      go_wp2_with fail
      refine HM3.out.mono ?_
      rintro en _ ⟨rfl, rfl⟩
      have HD4 : Hid (DFI w ws (W3.alloc (.cells #[.int .i64 e.id] 3)) w.heap.size g8 m.th m.ev m.ru (.slice A6 m.th.length c6) A7 c7) := Lib.hid (HD3.out.on (below_box W3 _))
      have HO7 := Lib.hid HD4.out.o7
      have HCC : Hid ((W3.alloc (.cells #[.int .i64 e.id] 3)).cell? ⟨W3.heap.size, 0, none⟩ = some (.int .i64 e.id)) := Lib.hid (by simp)
      have HLN : Hid (m.ev.length ≤ 1000) := Lib.hid (by have := HN.out; omega)
      have HBS : Hid (ws.heap.size ≤ (W3.alloc (.cells #[.int .i64 e.id] 3)).heap.size) := Lib.hid HD4.out.bs
      have HKP : Hid (∀ W5, (W3.alloc (.cells #[.int .i64 e.id] 3)).grownBy W5 (Value.slice A7 m.ev.length c7).ownBlock → ∀ k v, W3.cell? ⟨gE, k, none⟩ = some v → W5.cell? ⟨gE, k, none⟩ = some v) := Lib.hid (fun W5 hg k v h => hg.cell (by rw [(below_box W3 _).cell (World.block_lt_of_cell? W3 _ h)]; exact h) HGE.out)
      go_wp2_with (at_builtin; refine wpList_append_evs rfl _ _ rfl ws.heap.size _ m.ev.length m.ev.reverse e.id rfl HO7.out W3.heap.size 1 rfl HCC.out HLN.out HBS.out ?_)
      intro v5 W5 hown hg
      obtain ⟨hbe, A7', c7', rfl, hD5⟩ := HD4.out.ever hown hg
      have s2 := HKP.out W5 hg _ _ d2
      have s3 := HKP.out W5 hg _ _ d3
      have s4 := HKP.out W5 hg _ _ d4
      have s5 := HKP.out W5 hg _ _ d5
      have s6 := HKP.out W5 hg _ _ d6
      have M5 := insert_any e.inf (infRow_slice hD5.o6) (by have := HN.out; omega)
      unfold Inf.val Ent.inf at M5
      simp only at M5
      have HM5 := Lib.hid M5
      have HD5 := Lib.hid hD5
      clear hown hg hbe hD5 M5 d0 d1 d2 d3 d4 d5 d6 d7 HD4 HO7 HCC HLN HBS HKP
      go_wp2_with fail
      refine HM5.out.mono ?_
      rintro en W6 ⟨v6, rfl, hown6, hb6⟩
      obtain ⟨A6', c6', rfl⟩ := own_slice hown6
      obtain ⟨T, hT⟩ : ∃ T, T = m.take e := ⟨_, rfl⟩
      have hTth : T.th = insI e.inf m.th := by rw [hT]; unfold Man.take; rw [if_pos k1]
      have hTev : T.ev = e.id :: m.ev := by rw [hT]; unfold Man.take; rw [if_pos k1]
      have hTru : T.ru = m.ru := by rw [hT]; unfold Man.take; rw [if_pos k1]
      have hTv : T.vw = m.vw := by rw [hT]; unfold Man.take; rw [if_pos k1]
      have hTa : T.la = e.vw := by rw [hT]; unfold Man.take; rw [if_pos k1]
      have hTl : T.th.length = m.th.length + 1 := by rw [hTth, insI_length]
      have hTe : T.ev.length = m.ev.length + 1 := by rw [hTev]; rfl
      have hD6 : DFI w ws W6 w.heap.size g8 T.th T.ev T.ru (.slice A6' T.th.length c6') A7' c7' := by
        rw [hTl, hTth, hTev, hTru]
        exact HD5.out.rows hb6 (Nat.le_refl _) (by rw [insI_length]; exact hown6)
      have HND := Lib.hid hD6
      have HSZ : Hid (T.Good (i + 1) ∧ foldOn Man.zero l = foldOn T (l.drop (i + 1))) := Lib.hid ⟨by rw [hT]; exact HGT.out hF, by rw [HSY.out, if_pos hF, hT]⟩
      have HTL := Lib.hid hTl
      have HTE := Lib.hid hTe
      have HTV := Lib.hid hTv
      have HTA := Lib.hid hTa
      clear hT hTl hTe hTv hTa hD6 hF HSY HGT hTth hTev hTru hown6 hb6 HM5 HD5 s2 s3 s4 s5 s6 hev k1 hkd HM3
      have hin2 : i + 1 ≤ n := by omega
      have hib : i + 1 < 4611686018427387904 := by have := HN.out; omega
      go_wp2
      go_roundw
      case rel => exact ⟨i + 1, T, A6', A7', c6', c7', by rw [HTL.out], by rw [HTE.out], by rw [HTV.out], by rw [HTA.out], by go_num, hin2, HND, HSZ⟩
      case measure => simp [intOf]; omega
    by_cases k2 : e.kd = 2
    case pos =>
      rw [k2] at d0
      have hneg : FN < 0 ↔ ¬ m.has e.id := by rw [HFN.out]; exact fnd_none e.id m.th 0
      by_cases hh : m.has e.id
      case neg =>
        have hF : m.fault e = 9 := by unfold Man.fault; rw [if_neg (fun h => h hm), if_neg (fun h => k1 h.1), if_pos ⟨k2, hh⟩]
        have q1 : FN < 0 := hneg.2 hh
        have HRR : Hid (R = ([], Pol.zero, 0, 9)) := Lib.hid (by
          rw [HR.out]
          refine fold_bad (m := m) ?_ (by decide)
          rw [HSY.out, if_neg (by rw [hF]; decide), hF])
        obtain ⟨z0, z1, z2, z3, z4, z5⟩ := HD3.out.hz
        have f0 := HD3.out.fz 0 (by decide)
        have f1 := HD3.out.fz 1 (by decide)
        have f2 := HD3.out.fz 2 (by decide)
        have f3 := HD3.out.fz 3 (by decide)
        have f4 := HD3.out.fz 4 (by decide)
        have f5 := HD3.out.fz 5 (by decide)
        unfold Pol.zero at z0 z1 z2 z3 z4 z5
        simp only at z0 z1 z2 z3 z4 z5
        clear hh hm hkd hneg
        go_wp2
        (try rw [Exit.noGoto_ret])
        refine bodyPost_ret (v := .tuple #[.slice none 0 0, .agg #[.int .i64 0, .int .i64 0, .int .i64 0, .int .i64 0, .int .i64 0, .int .i64 0], .int .i64 0, .int .i64 9]) ?_ rfl ⟨none, 0, ?_, ?_, ?_⟩
        · simp [results, Tryd.results19, go_sem, *]
        · rw [HRR.out]; rfl
        · rw [HRR.out]; exact InfRow.none _
        · exact below_set6 HD3.out.below (Nat.le_refl _)
      have q1 : ¬ FN < 0 := fun h => (hneg.1 h) hh
      by_cases q : e.vw < m.la
      case pos =>
        have hF : m.fault e = 12 := by unfold Man.fault; rw [if_neg (fun h => h hm), if_neg (fun h => k1 h.1), if_neg (fun h => h.2 hh), if_pos q]
        have HRR : Hid (R = ([], Pol.zero, 0, 12)) := Lib.hid (by
          rw [HR.out]
          refine fold_bad (m := m) ?_ (by decide)
          rw [HSY.out, if_neg (by rw [hF]; decide), hF])
        obtain ⟨z0, z1, z2, z3, z4, z5⟩ := HD3.out.hz
        have f0 := HD3.out.fz 0 (by decide)
        have f1 := HD3.out.fz 1 (by decide)
        have f2 := HD3.out.fz 2 (by decide)
        have f3 := HD3.out.fz 3 (by decide)
        have f4 := HD3.out.fz 4 (by decide)
        have f5 := HD3.out.fz 5 (by decide)
        unfold Pol.zero at z0 z1 z2 z3 z4 z5
        simp only at z0 z1 z2 z3 z4 z5
        clear hh hm hkd hneg
        go_wp2
        (try rw [Exit.noGoto_ret])
        refine bodyPost_ret (v := .tuple #[.slice none 0 0, .agg #[.int .i64 0, .int .i64 0, .int .i64 0, .int .i64 0, .int .i64 0, .int .i64 0], .int .i64 0, .int .i64 12]) ?_ rfl ⟨none, 0, ?_, ?_, ?_⟩
        · simp [results, Tryd.results19, go_sem, *]
        · rw [HRR.out]; rfl
        · rw [HRR.out]; exact InfRow.none _
        · exact below_set6 HD3.out.below (Nat.le_refl _)
      have hF : m.fault e = 0 := by unfold Man.fault; rw [if_neg (fun h => h hm), if_neg (fun h => k1 h.1), if_neg (fun h => h.2 hh), if_neg q]
      have hFN0 : ¬ fnd e.id 0 m.th < 0 := by rw [← HFN.out]; exact q1
      obtain ⟨a, ha1, ha2, ha3⟩ := fnd_at e.id m.th 0 hFN0
      rw [Nat.zero_add] at ha1
      have hFA : FN = (a : Int) := HFN.out.trans ha1
      subst hFA
      have hmx := hle6.2
      unfold maxLen at hmx
      have i4 : IntKind.i64.wrap ((a : Int) + 1) = (a : Int) + 1 := by rw [IntKind.wrap_i64]; omega
      have hsl := fun w => sliceI_hi (A := A6) (n := m.th.length) (k := a) (cap := c6) (by omega) w
      have hr3 := infRow_slice HD3.out.o6
      obtain ⟨A2, hsl2_, hr2⟩ := sliceI_lo (lo := a + 1) hr3 (by omega)
      have hsl2 : ∀ w, (Instr.slice 36 (.slice A6 m.th.length c6) (some (.int .i64 ((a : Int) + 1))) none none).run Tryd.prog w = .ok (.slice A2 (m.th.length - (a + 1)) (c6 - (a + 1))) w := fun w => by
        have h := hsl2_ w
        push_cast at h
        exact h
      have HR1 : Hid (InfRow (W3.alloc (.cells #[] 50)).drew A6 a c6 (m.th.take a)) := Lib.hid ((hr3.below (past (below_box W3 _) (below_drewN _ 1))).take (by omega))
      have HO : Hid ((W3.alloc (.cells #[] 50)).drew.ownsRow W3.heap.size 50 5 (.slice (some ⟨W3.heap.size, 0, none⟩) 0 0) 0 (infsV [])) := Lib.hid (ownRow_below (own_emptyI W3) (below_drewN _ 1))
      have HZ : Hid (W3.heap.size ≤ (W3.alloc (.cells #[] 50)).drew.heap.size) := Lib.hid (past (below_box W3 _) (below_drewN _ 1)).size
      have HZ4 : Hid (∀ w4, (W3.alloc (.cells #[] 50)).drew.grownBy w4 (Value.slice (some ⟨W3.heap.size, 0, none⟩) 0 0).ownBlock → Below W3.heap.size W3 w4) := Lib.hid (fun w4 hg4 => (past (below_box W3 _) (below_drewN _ 1)).grown hg4 HZ.out (fun q e => (HO.out.lt q e).1))
      have HR2 : Hid (Later W3 fun u => InfRow u A2 (m.th.length - (a + 1)) (c6 - (a + 1)) (m.th.drop (a + 1))) := Lib.hid (fun u hu => hr2.below hu)
      have HS1 : Hid (0 + a ≤ 1000000) := Lib.hid (by have := HN.out; omega)
      have HS2 : Hid (a + (m.th.length - (a + 1)) ≤ 1000000) := Lib.hid (by have := HN.out; omega)
      have HHA := Lib.hid (And.intro ha2 ha3)
      clear hr3 hr2 hsl2_ ha1 ha2 ha3 hFN0 hh hneg hmx HFN
      go_upto_region 26 with fail
      go_region_law (first
        | (refine step_append_infs rfl (.tmp 87) (.tmp 90) rfl W3.heap.size (.slice (some ⟨W3.heap.size, 0, none⟩) 0 0) 0 a [] (m.th.take a) (by simp [Act.eval]) HO.out A6 c6 (by simp [Act.eval]) HR1.out HS1.out HZ.out ?_; intro v4 w4 hown4_ hg4; have hb4 := HZ4.out _ hg4; have hown4 : w4.ownsRow W3.heap.size 50 5 v4 a (infsV (m.th.take a)) := by simpa using hown4_)
        | (refine step_append_infs rfl (.tmp 91) (.tmp 95) rfl W3.heap.size v4 a (m.th.length - (a + 1)) (m.th.take a) (m.th.drop (a + 1)) (by simp [Act.eval]) hown4 A2 (c6 - (a + 1)) (by simp [Act.eval]) (HR2.out _ hb4) HS2.out hb4.size ?_; intro v5 w5 hown5 hg5))
      have hb5 : Below W3.heap.size W3 w5 := hb4.grown hg5 hb4.size (fun q e => (hown4.lt q e).1)
      obtain ⟨A6', c6', rfl⟩ := own_slice hown5
      obtain ⟨T, hT⟩ : ∃ T, T = m.take e := ⟨_, rfl⟩
      have hTth : T.th = m.th.take a ++ m.th.drop (a + 1) := by
        rw [hT]; unfold Man.take; rw [if_neg k1, if_pos k2]
        exact filter_cut m.th a e.id HASC.out HHA.out.1 HHA.out.2
      have hTev : T.ev = m.ev := by rw [hT]; unfold Man.take; rw [if_neg k1, if_pos k2]
      have hTru : T.ru = m.ru := by rw [hT]; unfold Man.take; rw [if_neg k1, if_pos k2]
      have hTv : T.vw = m.vw := by rw [hT]; unfold Man.take; rw [if_neg k1, if_pos k2]
      have hTa : T.la = e.vw := by rw [hT]; unfold Man.take; rw [if_neg k1, if_pos k2]
      have hTl : T.th.length = a + (m.th.length - (a + 1)) := by
        have := HHA.out.1
        rw [hTth, List.length_append, List.length_take, List.length_drop]
        omega
      have hTe : T.ev.length = m.ev.length := by rw [hTev]
      have hD6 : DFI w ws w5 w.heap.size g8 T.th T.ev T.ru (.slice A6' T.th.length c6') A7 c7 := by
        rw [hTev, hTru]
        refine HD3.out.rows hb5 (Nat.le_refl _) ?_
        rw [hTl, hTth]
        exact hown5
      have HND := Lib.hid hD6
      have HSZ : Hid (T.Good (i + 1) ∧ foldOn Man.zero l = foldOn T (l.drop (i + 1))) := Lib.hid ⟨by rw [hT]; exact HGT.out hF, by rw [HSY.out, if_pos hF, hT]⟩
      have HTL := Lib.hid hTl
      have HTE := Lib.hid hTe
      have HTV := Lib.hid hTv
      have HTA := Lib.hid hTa
      clear hT hTl hTe hTv hTa hD6 hF HSY HGT hTth hTev hTru hown4 hown4_ hown5 hg4 hg5 hb4 hb5 hsl hsl2 HR1 HO HZ HZ4 HR2 HS1 HS2 i4 k1 hkd d0 d1 d2 d3 d4 d5 d6 d7
      have hin2 : i + 1 ≤ n := by omega
      have hib : i + 1 < 4611686018427387904 := by have := HN.out; omega
      go_wp2
      go_roundw
      case rel => exact ⟨i + 1, T, A6', A7, c6', c7, by rw [HTL.out], by rw [HTE.out], by rw [HTV.out], by rw [HTA.out], by go_num, hin2, HND, HSZ⟩
      case measure => simp [intOf]; omega
    have e1 : (e.kd == 1) = false := by simpa using k1
    have e2 : (e.kd == 2) = false := by simpa using k2
    by_cases q : e.vw < m.la
    case pos =>
      have hF : m.fault e = 12 := by unfold Man.fault; rw [if_neg (fun h => h hm), if_neg (fun h => k1 h.1), if_neg (fun h => k2 h.1), if_pos q]
      have HRR : Hid (R = ([], Pol.zero, 0, 12)) := Lib.hid (by
        rw [HR.out]
        refine fold_bad (m := m) ?_ (by decide)
        rw [HSY.out, if_neg (by rw [hF]; decide), hF])
      obtain ⟨z0, z1, z2, z3, z4, z5⟩ := HD3.out.hz
      have f0 := HD3.out.fz 0 (by decide)
      have f1 := HD3.out.fz 1 (by decide)
      have f2 := HD3.out.fz 2 (by decide)
      have f3 := HD3.out.fz 3 (by decide)
      have f4 := HD3.out.fz 4 (by decide)
      have f5 := HD3.out.fz 5 (by decide)
      unfold Pol.zero at z0 z1 z2 z3 z4 z5
      simp only at z0 z1 z2 z3 z4 z5
      clear hm hkd k1 k2
      go_wp2
      (try rw [Exit.noGoto_ret])
      refine bodyPost_ret (v := .tuple #[.slice none 0 0, .agg #[.int .i64 0, .int .i64 0, .int .i64 0, .int .i64 0, .int .i64 0, .int .i64 0], .int .i64 0, .int .i64 12]) ?_ rfl ⟨none, 0, ?_, ?_, ?_⟩
      · simp [results, Tryd.results19, go_sem, *]
      · rw [HRR.out]; rfl
      · rw [HRR.out]; exact InfRow.none _
      · exact below_set6 HD3.out.below (Nat.le_refl _)
    have hF : m.fault e = 0 := by unfold Man.fault; rw [if_neg (fun h => h hm), if_neg (fun h => k1 h.1), if_neg (fun h => k2 h.1), if_neg q]
    by_cases k3 : e.kd = 3
    case pos =>
      rw [k3] at d0
      obtain ⟨T, hT⟩ : ∃ T, T = m.take e := ⟨_, rfl⟩
      have hTth : T.th = m.th := by rw [hT]; unfold Man.take; rw [if_neg k1, if_neg k2, if_pos k3]
      have hTev : T.ev = m.ev := by rw [hT]; unfold Man.take; rw [if_neg k1, if_neg k2, if_pos k3]
      have hTru : T.ru = m.ru := by rw [hT]; unfold Man.take; rw [if_neg k1, if_neg k2, if_pos k3]
      have hTv : T.vw = e.vw := by rw [hT]; unfold Man.take; rw [if_neg k1, if_neg k2, if_pos k3]
      have hTa : T.la = e.vw := by rw [hT]; unfold Man.take; rw [if_neg k1, if_neg k2, if_pos k3]
      have hTl : T.th.length = m.th.length := by rw [hTth]
      have hTe : T.ev.length = m.ev.length := by rw [hTev]
      have hD6 : DFI w ws W3 w.heap.size g8 T.th T.ev T.ru (.slice A6 T.th.length c6) A7 c7 := by
        rw [hTth, hTev, hTru]
        exact HD3.out
      have HND := Lib.hid hD6
      have HSZ : Hid (T.Good (i + 1) ∧ foldOn Man.zero l = foldOn T (l.drop (i + 1))) := Lib.hid ⟨by rw [hT]; exact HGT.out hF, by rw [HSY.out, if_pos hF, hT]⟩
      have HTL := Lib.hid hTl
      have HTE := Lib.hid hTe
      have HTV := Lib.hid hTv
      have HTA := Lib.hid hTa
      clear hT hTl hTe hTv hTa hD6 hF HSY HGT hTth hTev hTru k1 k2 hkd e1 e2 hm HFN
      have hin2 : i + 1 ≤ n := by omega
      have hib : i + 1 < 4611686018427387904 := by have := HN.out; omega
      go_wp2
      go_roundw
      case rel => exact ⟨i + 1, T, A6, A7, c6, c7, by rw [HTL.out], by rw [HTE.out], by rw [HTV.out], by rw [HTA.out], by go_num, hin2, HND, HSZ⟩
      case measure => simp [intOf]; omega
    have k4 : e.kd = 4 := by omega
    rw [k4] at d0
    have M5 := dparse_any e.tx W3 HTX.out
    obtain ⟨P, hP⟩ : ∃ P, P = parse e.tx := ⟨_, rfl⟩
    rw [← hP] at M5
    obtain ⟨T, hT⟩ : ∃ T, T = m.take e := ⟨_, rfl⟩
    have hTth : T.th = m.th := by rw [hT]; unfold Man.take; rw [if_neg k1, if_neg k2, if_neg k3, if_pos k4]
    have hTev : T.ev = m.ev := by rw [hT]; unfold Man.take; rw [if_neg k1, if_neg k2, if_neg k3, if_pos k4]
    have hTru : T.ru = P.1 := by rw [hT, hP]; unfold Man.take; rw [if_neg k1, if_neg k2, if_neg k3, if_pos k4]
    have hTv : T.vw = m.vw := by rw [hT]; unfold Man.take; rw [if_neg k1, if_neg k2, if_neg k3, if_pos k4]
    have hTa : T.la = e.vw := by rw [hT]; unfold Man.take; rw [if_neg k1, if_neg k2, if_neg k3, if_pos k4]
    have hTl : T.th.length = m.th.length := by rw [hTth]
    have hTe : T.ev.length = m.ev.length := by rw [hTev]
    have HTQ := Lib.hid (And.intro hTth (And.intro hTev hTru))
    clear hTth hTev hTru hP
    obtain ⟨⟨u0, u1, u2, u3, u4, u5⟩, pc, pl⟩ := P
    unfold Pol.val str at M5
    simp only at M5
    have HM5 := Lib.hid M5
    clear M5
    go_wp2_with fail
    refine HM5.out.mono ?_
    rintro en W5 ⟨rfl, hb5⟩
    have HD5 := Lib.hid (HD3.out.on hb5)
    obtain ⟨p0, p1, p2, p3, p4, p5⟩ := HD5.out.hp
    have f0 := HD5.out.fp 0 (by decide)
    have f1 := HD5.out.fp 1 (by decide)
    have f2 := HD5.out.fp 2 (by decide)
    have f3 := HD5.out.fp 3 (by decide)
    have f4 := HD5.out.fp 4 (by decide)
    have f5 := HD5.out.fp 5 (by decide)
    have hD6 := HD5.out.rule ⟨u0, u1, u2, u3, u4, u5⟩
    have hq := HTQ.out
    simp only at hq hD6
    rw [← hq.1, ← hq.2.1, ← hq.2.2] at hD6
    have HND := Lib.hid hD6
    have HSZ : Hid (T.Good (i + 1) ∧ foldOn Man.zero l = foldOn T (l.drop (i + 1))) := Lib.hid ⟨by rw [hT]; exact HGT.out hF, by rw [HSY.out, if_pos hF, hT]⟩
    have HTL := Lib.hid hTl
    have HTE := Lib.hid hTe
    have HTV := Lib.hid hTv
    have HTA := Lib.hid hTa
    clear hT hTl hTe hTv hTa hD6 hF HSY HGT hq hb5 HM5 k1 k2 k3 k4 hkd e1 e2 hm HFN d0 d1 d2 d3 d4 d5 d6 d7 HTQ
    have hin2 : i + 1 ≤ n := by omega
    have hib : i + 1 < 4611686018427387904 := by have := HN.out; omega
    go_wp2
    go_roundw
    case rel => exact ⟨i + 1, T, A6, A7, c6, c7, by rw [HTL.out], by rw [HTE.out], by rw [HTV.out], by rw [HTA.out], by go_num, hin2, HND, HSZ⟩
    case measure => simp [intOf]; omega
end Go.Proofs.YtdpoahjgdndnhaaDoor
