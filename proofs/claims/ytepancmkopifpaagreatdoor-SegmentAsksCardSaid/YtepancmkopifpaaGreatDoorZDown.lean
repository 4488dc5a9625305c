/-
  What a law's segment gives a walk.
  The windows of two segments, those that follow with one From joined.
  Two windows handed to Down as the first two of one window: what joining is.
  Down: the row that it returns is the call's own.
-/
import Derived.Test.YtepancmkopifpaaGreatDoorPArgs
import Derived.Test.YtepancmkopifpaaGreatDoorTArgs
import Derived.Test.YtepancmkopifpaaGreatDoorSLeaf
import Derived.Test.YtepancmkopifpaaGreatDoorGRoll
import Derived.Test.YtepancmkopifpaaGreatDoorTDownAny
set_option maxRecDepth 100000
namespace Go.Proofs.YtepancmkopifpaaGreatDoor
open Go.ChangeShapes Go.WideShapes Go.ChangeAt Go.RowKit
set_option linter.unusedVariables false

section
variable {H : Type} {enc : TypeId × Value → H} {W : World} {base : Nat} {held : Bool}
theorem cell_intT {fuel t : Nat} {v : Value} {x : DataW H × List MemPlace} (ht : Tryz.prog.underlying t = some (.int .i64)) (h : DataW.trod enc Tryz.prog W base (fun _ => true) held fuel t [v] = some x) : ∃ n, v = .int .i64 n ∧ In64 n := by
  obtain ⟨n, hc, _, hw⟩ := DataW.trod_int ht h
  exact ⟨n, by simpa using hc, fits_i64 hw⟩
theorem cell_slice {fuel t e : Nat} {v : Value} {x : DataW H × List MemPlace} (ht : Tryz.prog.underlying t = some (.slice e)) (h : DataW.trod enc Tryz.prog W base (fun _ => true) held fuel t [v] = some x) : ∃ a len cap, v = .slice a len cap := by
  rcases Go.Deep.open_slice ht h with ⟨hcs, _⟩ | ⟨a, l, c, m, n, D, Pl, hcs, _⟩
  · injection hcs with hcs _
    exact ⟨none, 0, 0, hcs⟩
  · injection hcs with hcs _
    exact ⟨_, _, _, hcs⟩
theorem trod_of {fuel t : Nat} {v : Value} {x : DataW H × List MemPlace} (hv : v.cells.toList = [v]) (h : DataW.trod enc Tryz.prog W base (fun _ => true) held fuel t [v] = some x) : DataW.Trod enc Tryz.prog W base (fun _ => true) held t v x.1 x.2 := by
  refine ⟨fuel, ?_⟩
  rw [hv]
  exact h
/-- A segment by value, opened. -/
theorem open_seg {r : Reach} {b0 : Nat} {v : Value} {d : DataW H} {p : List MemPlace} (hv : Value.okWide Tryz.prog W r b0 25 v) (h : DataW.Trod enc Tryz.prog W base (fun _ => true) held 25 v d p) :
    ∃ (s : Sg) (A : Option Addr) (n ca : Nat) (B : Option Addr) (m cb : Nat), v = .agg #[.int .i64 s.id, .int .i64 s.tier, .int .i64 s.fr, .int .i64 s.tz, .slice A n ca, .slice B m cb] ∧ SegAt W s A n ca B m cb := by
  obtain ⟨cs, rfl, hsz⟩ := okWide_struct Tryz.underlying25 hv
  obtain ⟨l⟩ := cs
  obtain ⟨fuel, hf⟩ := h
  obtain ⟨xs, n, _, hxx, _, hlen, hg⟩ := DataW.trod_struct Tryz.underlying25 hf
  have cS : Tryz.prog.cellsOf 25 = 6 := by kernel_rfl
  have c2 : Tryz.prog.cellsOf 2 = 1 := by kernel_rfl
  have c3 : Tryz.prog.cellsOf 3 = 1 := by kernel_rfl
  have c4 : Tryz.prog.cellsOf 22 = 1 := by kernel_rfl
  have c5 : Tryz.prog.cellsOf 23 = 1 := by kernel_rfl
  have hl : l.length = 6 := by rw [← cS, ← hsz]; rfl
  match l, hl with
  | [v0, v1, v2, v3, v4, v5], _ =>
    have some_ : ∀ i, i < 6 → ∃ y, xs[i]? = some y := fun i hi => ⟨_, List.getElem?_eq_getElem (by rw [hlen]; exact hi)⟩
    obtain ⟨y0, e0⟩ := some_ 0 (by decide)
    have h0 : DataW.trod enc Tryz.prog W base (fun _ => true) held n 3 [v0] = some y0 := by have := hg 0 _ rfl; rw [e0] at this; simpa [c3, Value.cells] using this
    obtain ⟨y1, e1⟩ := some_ 1 (by decide)
    have h1 : DataW.trod enc Tryz.prog W base (fun _ => true) held n 3 [v1] = some y1 := by have := hg 1 _ rfl; rw [e1] at this; simpa [c3, Value.cells] using this
    obtain ⟨y2, e2⟩ := some_ 2 (by decide)
    have h2 : DataW.trod enc Tryz.prog W base (fun _ => true) held n 2 [v2] = some y2 := by have := hg 2 _ rfl; rw [e2] at this; simpa [c2, Value.cells] using this
    obtain ⟨y3, e3⟩ := some_ 3 (by decide)
    have h3 : DataW.trod enc Tryz.prog W base (fun _ => true) held n 2 [v3] = some y3 := by have := hg 3 _ rfl; rw [e3] at this; simpa [c2, Value.cells] using this
    obtain ⟨y4, e4⟩ := some_ 4 (by decide)
    have h4 : DataW.trod enc Tryz.prog W base (fun _ => true) held n 22 [v4] = some y4 := by have := hg 4 _ rfl; rw [e4] at this; simpa [c4, Value.cells] using this
    obtain ⟨y5, e5⟩ := some_ 5 (by decide)
    have h5 : DataW.trod enc Tryz.prog W base (fun _ => true) held n 23 [v5] = some y5 := by have := hg 5 _ rfl; rw [e5] at this; simpa [c5, Value.cells] using this
    obtain ⟨z0, rfl, i0⟩ := cell_intT Tryz.underlying3 h0
    obtain ⟨z1, rfl, i1⟩ := cell_intT Tryz.underlying3 h1
    obtain ⟨z2, rfl, i2⟩ := cell_intT Tryz.underlying2 h2
    obtain ⟨z3, rfl, i3⟩ := cell_intT Tryz.underlying2 h3
    obtain ⟨A, na, ca, rfl⟩ := cell_slice Tryz.underlying22 h4
    obtain ⟨B, nb, cb, rfl⟩ := cell_slice Tryz.underlying23 h5
    have k4 := trod_of rfl h4
    have k5 := trod_of rfl h5
    obtain ⟨ls, hl1, hs, hle, hmx, hnil⟩ := open_samples k4
    obtain ⟨la, ha⟩ := open_aggs k5
    exact ⟨⟨z0, z1, z2, z3, ls, la⟩, A, na, ca, B, nb, cb, rfl, ⟨⟨hs, by show ls.length ≤ _; omega, hmx, hnil⟩, hl1, ha, ⟨i0, i1, i2, i3, hs.1, ha.2.1.1⟩⟩⟩
end
end Go.Proofs.YtepancmkopifpaaGreatDoor
namespace Go.Proofs.YtepancmkopifpaaGreatDoor
set_option linter.unusedVariables false

theorem meetOn_app {W : Int} : ∀ (l : List Ag) (p : Int) (out r : List Ag), AlOn W p l → (0 < out.length → (agAt out (out.length - 1)).fr / W < p) → meetOn out (l ++ r) = meetOn (out ++ l) r
  | [], p, out, r, _, _ => by rw [List.nil_append, List.append_nil]
  | a :: l, p, out, r, h, hp => by
    obtain ⟨h1, h2, h3, h4⟩ := h
    rw [List.cons_append, meetOn, if_neg (by
      rintro ⟨h0, e⟩
      have := hp h0
      rw [e] at this
      omega), meetOn_app l (a.fr / W + 1) (out ++ [a]) r h4 (fun _ => by rw [agAt_last]; omega), List.append_assoc]
    rfl
/-- What the windows of two segments come to. -/
def meet2 (s : List Ag) (b : Ag) (r : List Ag) : List Ag × Int :=
  if (agAt s (s.length - 1)).fr = b.fr then if (join (agAt s (s.length - 1)) b).2 = 0 then (s.set (s.length - 1) (join (agAt s (s.length - 1)) b).1 ++ r, 0) else ([], (join (agAt s (s.length - 1)) b).2) else (s ++ b :: r, 0)
theorem meet_two {q : Int} {s r : List Ag} {b : Ag} (hs : Align s q) (ht : Align (b :: r) q) (h0 : 0 < s.length) : meetOn [] (s ++ b :: r) = meet2 s b r := by
  have a1 := (align_iff s hs.1).1 hs
  have a2 := (align_iff (b :: r) ht.1).1 ht
  obtain ⟨_, _, _, a3⟩ := a2
  rw [meetOn_app s 0 [] (b :: r) a1 (fun h => absurd h (by simp)), List.nil_append]
  unfold meet2
  rw [meetOn]
  by_cases he : (agAt s (s.length - 1)).fr = b.fr
  · rw [if_pos ⟨h0, he⟩, if_pos he]
    by_cases hz : (join (agAt s (s.length - 1)) b).2 = 0
    · rw [if_pos hz, if_pos hz]
      refine meetOn_al r (b.fr / wid q + 1) _ a3 (fun _ => ?_)
      have e : agAt (s.set (s.length - 1) (join (agAt s (s.length - 1)) b).1) ((s.set (s.length - 1) (join (agAt s (s.length - 1)) b).1).length - 1) = (join (agAt s (s.length - 1)) b).1 := by
        unfold agAt
        simp [List.getD_eq_getElem?_getD, show s.length - 1 < s.length by omega]
      rw [e, (join_zero hz).2.2.2.2]
      show (agAt s (s.length - 1)).fr / wid q < _
      rw [he]
      omega
    · rw [if_neg hz, if_neg hz]
  · rw [if_neg (fun h => he h.2), if_neg he, meetOn_al r (b.fr / wid q + 1) (s ++ [b]) a3 (fun _ => by rw [agAt_last]; omega), List.append_assoc]
    rfl
end Go.Proofs.YtepancmkopifpaaGreatDoor
namespace Go.Proofs.YtepancmkopifpaaGreatDoor
set_option linter.unusedVariables false

def Ag.move (a : Ag) (f : Int) : Ag := ⟨f, a.cn, a.sm, a.mn, a.mx, a.fi, a.la⟩
theorem Ag.move_may {a : Ag} {f : Int} (h : a.may) (hf : Ag.begin_ f) : (a.move f).may := ⟨hf, h.2.1, h.2.2.1, h.2.2.2⟩
theorem join_maj {a b : Ag} (ha : a.may) (hb : b.may) : join a b = if a.cn + b.cn ≤ 1099511627776 then if In64 (a.sm + b.sm) then (a.both b, 0) else (Ag.zero, 3) else (Ag.zero, 1) := by
  unfold join
  by_cases hc : a.cn + b.cn ≤ 1099511627776
  · rw [if_pos ⟨ha, hb, hc⟩, if_pos hc]
  · rw [if_neg (fun h => hc h.2.2), if_neg hc]
theorem join_move {a b : Ag} {f g : Int} (ha : a.may) (hb : b.may) (hf : Ag.begin_ f) (hg : Ag.begin_ g) :
    join (a.move f) (b.move g) = if (join a b).2 = 0 then ((join a b).1.move f, 0) else (Ag.zero, (join a b).2) := by
  rw [join_maj (Ag.move_may ha hf) (Ag.move_may hb hg), join_maj ha hb]
  show (if a.cn + b.cn ≤ 1099511627776 then if In64 (a.sm + b.sm) then ((a.move f).both (b.move g), 0) else (Ag.zero, 3) else (Ag.zero, 1)) = _
  by_cases hc : a.cn + b.cn ≤ 1099511627776
  · simp only [if_pos hc]
    by_cases hs : In64 (a.sm + b.sm)
    · simp only [if_pos hs, if_true]
      rfl
    · simp only [if_neg hs]
      rfl
  · simp only [if_neg hc]
    rfl
theorem begin_small {f : Int} (h : 0 ≤ f ∧ f ≤ 1440) : Ag.begin_ f := by unfold Ag.begin_; omega
theorem flr_first {f k : Int} (hk : coarse k) (h0 : 0 ≤ f) (h : f < wid k) : flr f k = 0 := by
  have hw := coarse_wid hk
  rw [flr_some (by omega) (begin_small (by omega)), Int.emod_eq_of_lt h0 h]
  omega
theorem align_two {a b : Ag} {k : Int} (hk1 : coarse (k - 1)) (ha : a.may) (hb : b.may) : Align [a.move 0, b.move (wid (k - 1))] (k - 1) := by
  have hw1 := coarse_wid hk1
  rw [align_iff _ hk1]
  refine ⟨Ag.move_may ha (begin_small (by omega)), by simp [Ag.move], by simp [Ag.move], Ag.move_may hb (begin_small (by omega)), ?_, ?_, trivial⟩
  · show wid (k - 1) % wid (k - 1) = 0
    exact Int.emod_self
  · show (0 : Int) / wid (k - 1) + 1 ≤ wid (k - 1) / wid (k - 1)
    rw [Int.zero_ediv, Int.ediv_self (by omega)]
    omega
theorem down_two {a b : Ag} {k : Int} (hk : coarse k) (hk1 : coarse (k - 1)) (ha : a.may) (hb : b.may) :
    down [a.move 0, b.move (wid (k - 1))] k = if (join a b).2 = 0 then ([(join a b).1.move 0], 0) else ([], (join a b).2) := by
  have hw := coarse_wid hk
  have hw1 := coarse_wid hk1
  have hlt : wid (k - 1) < wid k := by
    rcases coarse_cases hk with ⟨e, _⟩ | ⟨e, e2⟩ | ⟨e, e2⟩
    · subst e; unfold coarse at hk1; omega
    · subst e; decide
    · subst e; decide
  have f0 := flr_first hk (f := 0) (by omega) (by omega)
  have f1 := flr_first hk (f := wid (k - 1)) (by omega) hlt
  have b0 : Ag.begin_ 0 := begin_small (by omega)
  have bw : Ag.begin_ (wid (k - 1)) := begin_small (by omega)
  have hal : Align [a.move 0, b.move (wid (k - 1))] (k - 1) := by
    rw [align_iff _ hk1]
    refine ⟨Ag.move_may ha b0, by simp [Ag.move], by simp [Ag.move], Ag.move_may hb bw, ?_, ?_, trivial⟩
    · show wid (k - 1) % wid (k - 1) = 0
      exact Int.emod_self
    · show (0 : Int) / wid (k - 1) + 1 ≤ wid (k - 1) / wid (k - 1)
      rw [Int.zero_ediv, Int.ediv_self (by omega)]
      omega
  have e0 : (a.move 0).at_ k = a.move 0 := by
    show Ag.mk (flr 0 k) _ _ _ _ _ _ = _
    rw [f0]
    rfl
  have e1 : (b.move (wid (k - 1))).at_ k = b.move 0 := by
    show Ag.mk (flr (wid (k - 1)) k) _ _ _ _ _ _ = _
    rw [f1]
    rfl
  have hj := join_move ha hb b0 b0
  unfold down
  rw [if_pos ⟨hk, hal⟩, downOn, if_neg (fun h => absurd h.1 (by simp)), List.nil_append, e0, downOn]
  have e2 : agAt [a.move 0] ([a.move 0].length - 1) = a.move 0 := rfl
  rw [e2, if_pos ⟨by simp, f1.symm⟩, e1, hj]
  by_cases hz : (join a b).2 = 0
  · rw [if_pos hz, if_pos rfl, if_pos hz, downOn]
    rfl
  · rw [if_neg hz, if_neg hz, if_neg hz]
end Go.Proofs.YtepancmkopifpaaGreatDoor
namespace Go.Proofs.YtepancmkopifpaaGreatDoor
open Go.RowKit
attribute [local go_sem ↓] Go.wp_at_zero Go.wp_at_succ
set_option linter.unusedVariables false

def GivesO (w : World) (R : List Ag × Int) : Ending → World → Prop := fun e w' => ∃ v, e = .returned (.tuple #[v, .int .i64 R.2]) ∧ Below w.heap.size w w' ∧ w'.ownsRow w.heap.size 50 7 v R.1.length (aggV R.1) ∧ ∀ a ∈ R.1, a.ok

set_option maxRecDepth 100000 in
set_option maxHeartbeats 2000000 in
theorem down_own_in (b off n cap : Nat) (l : List Ag) (k : Int) (w : World) (hl : l.length = n) (h0 : 0 < n) (hS : Aggs w (some ⟨b, off, none⟩) l) (hc : n ≤ cap) (hm : cap ≤ maxLen) (hk : coarse k) (hr : Align l (k - 1)) (hw : Wid w) (hn : n ≤ 1000) :
    Calls Tryz.prog 70 #[.slice (some ⟨b, off, none⟩) n cap, .int .i64 k] w (GivesO w (downOn k [] l)) := by
  have hk64 : In64 k ∧ In64 (k - 1) := by unfold coarse at hk; unfold In64; omega
  have hsub : IntKind.i64.wrap (k - 1) = k - 1 := by unfold coarse at hk; rw [IntKind.wrap_i64]; omega
  have m0 := fun w => coarse_any k w hk64.1
  rw [decide_eq_true hk] at m0
  have M0 := Lib.hid m0
  have m1 := aligned_any (k - 1) hl hS hc hm hk64.2 hw
  rw [decide_eq_true hr] at m1
  obtain ⟨k1, hk1⟩ : ∃ k1, k - 1 = k1 := ⟨_, rfl⟩
  replace hsub : IntKind.i64.wrap (k - 1) = k1 := hsub.trans hk1
  rw [hk1] at m1
  have M1 := Lib.hid m1
  obtain ⟨R, hR⟩ : ∃ R, downOn k [] l = R := ⟨_, rfl⟩
  rw [hR]
  unfold GivesO
  have HSTART : Hid (∀ wr, Below w.heap.size w wr → DownInv w wr k 0 l [] (.slice none 0 0) R) := Lib.hid (fun wr hb => ⟨hR.symm, by simp, World.ownsRow_nil _ _ _ _, by simp, hb⟩)
  have HCELL : Hid (∀ j, j < n → HoldsAt w b (off + j * 7) (agAt l j)) := Lib.hid (by
    obtain ⟨b', o', e, hcc⟩ := hS.2 (by omega)
    injection e with e
    injection e with e1 e2
    subst e1 e2
    rw [hl] at hcc
    exact hcc)
  have HI : Hid (∀ a ∈ l, a.ok) := Lib.hid hS.1
  have HL := Lib.hid hl
  have HK := Lib.hid hk
  have HK64 := Lib.hid hk64.1
  have HW := Lib.hid hw
  unfold maxLen at hm
  have h0i : (0 : Int) < (n : Int) := by omega
  clear m0 m1 hR hS hk hr hw hl hk64 hk1
  go_enter Tryz.func70, Tryz.ntmps70
  go_wp2
  go_step3
  go_wp2_with fail
  refine (M0.out _).mono ?_
  rintro e w2 ⟨rfl, rfl⟩
  go_wp2_with fail
  refine M1.out.mono ?_
  rintro e w2 ⟨rfl, hb2⟩
  have HB2 := Lib.hid hb2
  clear hb2 hsub
  go_wp2
  go_step3
  go_wp2
  go_loopw [6, 24] (fun so si wr => ∃ (out : List Ag) (j : Nat), j ≤ n ∧ si = .int .i64 (j : Int) ∧ Hid (DownInv w wr k j l out so R)) (fun _ si _ => n - (intOf si).toNat)
  case atStart => exact ⟨[], 0, by omega, rfl, Lib.hid (HSTART.out _ HB2.out)⟩
  case round =>
    obtain ⟨out, j, hj, rfl, HD⟩ := hrel
    by_cases hlt : j < n
    · have hok := HI.out (agAt l j) (agg_mem (by rw [HL.out]; omega))
      have hh := (HCELL.out j hlt).below HD.out.below
      have hdr := agg_drop (l := l) (j := j) (by rw [HL.out]; omega)
      generalize agAt l j = a at hok hh hdr
      obtain ⟨c0, c1, c2, c3, c4, c5, c6⟩ := hh
      have m3 := fun w hw => floor_any a.fr k w hok.1 HK64.out hw
      have haok := at_ok (k := k) hok
      have hcap : (j : Int) < (n : Int) := by omega
      have hat : a.at_ k = ⟨flr a.fr k, a.cn, a.sm, a.mn, a.mx, a.fi, a.la⟩ := rfl
      generalize hF : flr a.fr k = F at m3 hat
      have M3 := Lib.hid m3
      have HB3 : Hid (Below w.heap.size w (wr.alloc (.cells #[.int .i64 a.fr, .int .i64 a.cn, .int .i64 a.sm, .int .i64 a.mn, .int .i64 a.mx, .int .i64 a.fi, .int .i64 a.la] 50))) := Lib.hid (past_alloc HD.out.below _)
      have HWID : Hid (∀ w', Below w.heap.size w w' → Wid w') := Lib.hid (fun w' hb => HW.out.below hb)
      go_wp2_with fail
      refine (M3.out _ (HWID.out _ HB3.out)).mono ?_
      rintro e w3 ⟨rfl, rfl⟩
      have HH3 : Hid (Holds (wr.alloc (.cells #[.int .i64 a.fr, .int .i64 a.cn, .int .i64 a.sm, .int .i64 a.mn, .int .i64 a.mx, .int .i64 a.fi, .int .i64 a.la] 50)) wr.heap.size a ∧ Free (wr.alloc (.cells #[.int .i64 a.fr, .int .i64 a.cn, .int .i64 a.sm, .int .i64 a.mn, .int .i64 a.mx, .int .i64 a.fi, .int .i64 a.la] 50)) wr.heap.size ∧ (wr.alloc (.cells #[.int .i64 a.fr, .int .i64 a.cn, .int .i64 a.sm, .int .i64 a.mn, .int .i64 a.mx, .int .i64 a.fi, .int .i64 a.la] 50)).ownsRow w.heap.size 50 7 u6 out.length (aggV out) ∧ w.heap.size ≤ wr.heap.size ∧ wr.heap.size < (wr.alloc (.cells #[.int .i64 a.fr, .int .i64 a.cn, .int .i64 a.sm, .int .i64 a.mn, .int .i64 a.mx, .int .i64 a.fi, .int .i64 a.la] 50)).heap.size ∧ (u6.ownBlock ≠ some wr.heap.size)) := Lib.hid (by
        refine ⟨Holds.new wr a, ?_, own7_below HD.out.own (past_alloc (Below.refl _ _) _), HD.out.below.size, by simp, fun e => ?_⟩
        · unfold Free
          simp
        · have := (HD.out.own.lt _ e).2
          omega)
      clear c0 c1 c2 c3 c4 c5 c6 M3 m3
      generalize wr.alloc (.cells #[.int .i64 a.fr, .int .i64 a.cn, .int .i64 a.sm, .int .i64 a.mn, .int .i64 a.mx, .int .i64 a.fi, .int .i64 a.la] 50) = ws at *
      generalize wr.heap.size = g8 at *
      have z0 := HH3.out.1.1
      have f0 := HH3.out.2.1.1
      go_upto_region 8 with fail
      clear z0 f0
      have HZ : Hid (Holds (ws.setCell ⟨g8, 0, none⟩ (.int .i64 F)) g8 (a.at_ k) ∧ (ws.setCell ⟨g8, 0, none⟩ (.int .i64 F)).ownsRow w.heap.size 50 7 u6 out.length (aggV out) ∧ Below w.heap.size w (ws.setCell ⟨g8, 0, none⟩ (.int .i64 F)) ∧ w.heap.size ≤ g8 ∧ u6.ownBlock ≠ some g8) := Lib.hid (by
        obtain ⟨⟨h0, h1, h2, h3, h4, h5, h6⟩, z2, z3, z4, z5, z6⟩ := HH3.out
        refine ⟨?_, ownsRow_setCell_other z3 z6 _, HB3.out.setCell z4 _, z4, z6⟩
        rw [hat]
        unfold Holds
        simp [go_sem, *])
      clear HH3 HB3
      generalize ws.setCell ⟨g8, 0, none⟩ (.int .i64 F) = wz at *
      have HSAY := Lib.hid (HD.out.says)
      have HDR := Lib.hid hdr
      have HFF := Lib.hid hF
      generalize hA : a.at_ k = A' at HZ haok hat
      have HAF : Hid (A'.fr = F) := Lib.hid (by rw [hat])
      have HAA := Lib.hid hA
      have HAOK := Lib.hid haok
      have HJ := Lib.hid hj
      have hroom : out.length + 1 ≤ 1000 := by have := HD.out.room; omega
      clear hdr hF hA haok hok hat
      by_cases hL : 0 < out.length
      case neg =>
        obtain rfl : out = [] := List.length_eq_zero_iff.1 (by omega)
        obtain ⟨A, ca, hv, hrow⟩ := rowOf_own HD.out.own HD.out.ok
        have HN : Hid (R = downOn k ([] ++ [A']) (l.drop (j + 1))) := Lib.hid (by rw [HSAY.out, HDR.out, downOn_new (fun h => absurd h.1 (by simp)), HAA.out])
        subst hv
        simp only [List.length_nil] at *
        clear hrow hL
        have z0 := HZ.out.1.1
        go_upto_region 9 with fail
        go_quiet (fail)
        clear z0
        have HY : Hid (Holds (wz.drewN nq) g8 A' ∧ (wz.drewN nq).ownsRow w.heap.size 50 7 (.slice A 0 ca) 0 (aggV []) ∧ Below w.heap.size w (wz.drewN nq)) := Lib.hid ⟨HZ.out.1.below (belowN _ _), own7_below HZ.out.2.1 (belowN _ _), past HZ.out.2.2.1 (belowN _ _)⟩
        generalize wz.drewN nq = wy at *
        obtain ⟨d0, d1, d2, d3, d4, d5, d6⟩ := HY.out.1
        obtain ⟨w9, hw9⟩ : ∃ w9, w9 = wy.alloc (.cells #[.int .i64 A'.fr, .int .i64 A'.cn, .int .i64 A'.sm, .int .i64 A'.mn, .int .i64 A'.mx, .int .i64 A'.fi, .int .i64 A'.la] 50) := ⟨_, rfl⟩
        have hB9 : Below wy.heap.size wy w9 := by rw [hw9]; exact past_alloc (Below.refl _ _) _
        have W9 := Lib.hid hw9
        have O9 : Hid (w9.ownsRow w.heap.size 50 7 (.slice A 0 ca) 0 (aggV [])) := Lib.hid (own7_below HY.out.2.1 hB9)
        have N9 : Hid (∀ j u, A'.cells[j]? = some u → w9.cell? ((⟨wy.heap.size, 0, none⟩ : Addr).add j) = some u) := Lib.hid (Holds.news (by rw [hw9]; exact Holds.new wy A'))
        have Z9 : Hid (w.heap.size ≤ w9.heap.size) := Lib.hid (Nat.le_trans HY.out.2.2.size hB9.size)
        have BB : Hid (Below w.heap.size w w9) := Lib.hid (past HY.out.2.2 hB9)
        clear hw9 hB9
        go_upto_region 10 with fail
        obtain ⟨i0', hi, hz0, hz1, hz2⟩ := info_parts Tryz.info50
        go_wp2_with (at_builtin; rw [← W9.out]; refine wpList_append_lies _ rfl _ _ 23 rfl w.heap.size 50 i0' (.agg #[.int .i64 0, .int .i64 0, .int .i64 0, .int .i64 0, .int .i64 0, .int .i64 0, .int .i64 0]) 7 56 Tryz.underlying23 hi hz0 hz1 hz2 rfl (by decide) (.slice A 0 ca) 0 (aggV []) rfl O9.out ⟨wy.heap.size, 0, none⟩ 1 1 A'.cells rfl rfl N9.out (cells_one A') (by decide) (by unfold maxLen; omega) (by omega) Z9.out _ rfl ?_)
        intro ga ca' wa hown hgrow hat hltg
        have HNEW : Hid (DownInv w wa k (j + 1) l ([] ++ [A']) (.slice (some ⟨ga, 0, none⟩) (0 + 1) ca') R) := Lib.hid (by
          refine ⟨HN.out, ?_, ?_, ?_, BB.out.grown hgrow Z9.out (fun k h => (O9.out.lt k h).1)⟩
          · have := HD.out.room
            rw [List.length_append]
            show [].length + 1 ≤ j + 1
            omega
          · rw [aggV_append, aggV_one, List.length_append]
            exact hown
          · intro x hx
            rw [List.mem_append, List.mem_singleton] at hx
            rcases hx with hx | rfl
            · exact HD.out.ok x hx
            · exact HAOK.out)
        clear hown hgrow hat hltg d0 d1 d2 d3 d4 d5 d6 W9 O9 N9 Z9 BB
        go_wp2
        go_roundw
        case rel => exact ⟨[] ++ [A'], j + 1, by omega, by go_num, HNEW⟩
        case measure => simp [intOf]; omega
      obtain ⟨g, ca, hv, hca, hcm, hwg, hgl, hgc⟩ := own7_form HZ.out.2.1 hL
      subst hv
      have hlast := hgc (out.length - 1) (by omega)
      have hlok := HD.out.ok (agAt out (out.length - 1)) (agg_mem (by omega))
      have hnew := downOn_new (k := k) (out := out) (a := a) (r := l.drop (j + 1))
      have hjoi := fun x => downOn_join (k := k) (out := out) (a := a) (r := l.drop (j + 1)) (x := x)
      have hL1 : (out.length : Int) - 1 < (out.length : Int) := by omega
      generalize hb : agAt out (out.length - 1) = b1 at hlast hlok hnew hjoi
      have i1 : (0 : Int) < (out.length : Int) := by omega
      have i3 : (0 : Int) ≤ (out.length : Int) - 1 := by omega
      have i5 : ((out.length : Int) - 1).toNat = out.length - 1 := by omega
      obtain ⟨q, hq⟩ : ∃ q, out.length - 1 = q := ⟨_, rfl⟩
      rw [hq] at hlast
      have i6 : IntKind.i64.wrap ((out.length : Int) - 1) = (q : Int) := by rw [IntKind.wrap_i64]; omega
      have i7 : decide ((q : Int) < 0) = false := decide_eq_false (by omega)
      have i8 : (q : Int) < (out.length : Int) := by omega
      have i9 : (0 : Int) ≤ (q : Int) := by omega
      have HQ := Lib.hid hq
      clear i3 i5 hL1
      have z0 := HZ.out.1.1
      rw [HAF.out] at z0
      have z1 := hlast.1
      by_cases hfr : b1.fr = F
      case neg =>
        have HN : Hid (R = downOn k (out ++ [A']) (l.drop (j + 1))) := Lib.hid (by rw [HSAY.out, HDR.out, hnew (fun h => hfr (h.2.trans HFF.out)), HAA.out])
        have hne : (b1.fr != F) = true := by simpa using hfr
        clear hnew hjoi hgc hb hfr hq
        go_upto_region 9 with fail
        go_quiet (fail)
        clear z0 z1 hlast
        have HY : Hid (Holds (wz.drewN nq) g8 A' ∧ (wz.drewN nq).ownsRow w.heap.size 50 7 (.slice (some ⟨g, 0, none⟩) out.length ca) out.length (aggV out) ∧ Below w.heap.size w (wz.drewN nq)) := Lib.hid ⟨HZ.out.1.below (belowN _ _), own7_below HZ.out.2.1 (belowN _ _), past HZ.out.2.2.1 (belowN _ _)⟩
        generalize wz.drewN nq = wy at *
        obtain ⟨d0, d1, d2, d3, d4, d5, d6⟩ := HY.out.1
        obtain ⟨w9, hw9⟩ : ∃ w9, w9 = wy.alloc (.cells #[.int .i64 A'.fr, .int .i64 A'.cn, .int .i64 A'.sm, .int .i64 A'.mn, .int .i64 A'.mx, .int .i64 A'.fi, .int .i64 A'.la] 50) := ⟨_, rfl⟩
        have hB9 : Below wy.heap.size wy w9 := by rw [hw9]; exact past_alloc (Below.refl _ _) _
        have W9 := Lib.hid hw9
        have O9 : Hid (w9.ownsRow w.heap.size 50 7 (.slice (some ⟨g, 0, none⟩) out.length ca) out.length (aggV out)) := Lib.hid (own7_below HY.out.2.1 hB9)
        have N9 : Hid (∀ j u, A'.cells[j]? = some u → w9.cell? ((⟨wy.heap.size, 0, none⟩ : Addr).add j) = some u) := Lib.hid (Holds.news (by rw [hw9]; exact Holds.new wy A'))
        have Z9 : Hid (w.heap.size ≤ w9.heap.size) := Lib.hid (Nat.le_trans HY.out.2.2.size hB9.size)
        have BB : Hid (Below w.heap.size w w9) := Lib.hid (past HY.out.2.2 hB9)
        clear hw9 hB9
        go_upto_region 10 with fail
        obtain ⟨i0', hi, hz0, hz1, hz2⟩ := info_parts Tryz.info50
        go_wp2_with (at_builtin; rw [← W9.out]; refine wpList_append_lies _ rfl _ _ 23 rfl w.heap.size 50 i0' (.agg #[.int .i64 0, .int .i64 0, .int .i64 0, .int .i64 0, .int .i64 0, .int .i64 0, .int .i64 0]) 7 56 Tryz.underlying23 hi hz0 hz1 hz2 rfl (by decide) (.slice (some ⟨g, 0, none⟩) out.length ca) out.length (aggV out) rfl O9.out ⟨wy.heap.size, 0, none⟩ 1 1 A'.cells rfl rfl N9.out (cells_one A') (by decide) (by unfold maxLen; omega) (by omega) Z9.out _ rfl ?_)
        intro ga ca' wa hown hgrow hat hltg
        have HNEW : Hid (DownInv w wa k (j + 1) l (out ++ [A']) (.slice (some ⟨ga, 0, none⟩) (out.length + 1) ca') R) := Lib.hid (by
          refine ⟨HN.out, ?_, ?_, ?_, BB.out.grown hgrow Z9.out (fun k h => (O9.out.lt k h).1)⟩
          · have := HD.out.room
            rw [List.length_append]
            show out.length + 1 ≤ j + 1
            omega
          · rw [aggV_append, aggV_one, List.length_append]
            exact hown
          · intro x hx
            rw [List.mem_append, List.mem_singleton] at hx
            rcases hx with hx | rfl
            · exact HD.out.ok x hx
            · exact HAOK.out)
        clear hown hgrow hat hltg d0 d1 d2 d3 d4 d5 d6 W9 O9 N9 Z9 BB
        go_wp2
        go_roundw
        case rel => exact ⟨out ++ [A'], j + 1, by omega, by go_num, HNEW⟩
        case measure => simp [intOf]; omega
      have hjk := join_ok hlok HAOK.out
      have m6 := fun w => join_any b1 A' w hlok HAOK.out
      have hsay := hjoi (join b1 A') ⟨hL, hfr.trans HFF.out.symm⟩ (by rw [HAA.out])
      generalize join b1 A' = x at hjk m6 hsay
      obtain ⟨ja, jc⟩ := x
      simp only at hjk m6 hsay
      unfold Ag.val at m6
      have M6 := Lib.hid m6
      have HJK := Lib.hid hjk
      have HS2 : Hid (R = if jc = 0 then downOn k (out.set q ja) (l.drop (j + 1)) else ([], jc)) := Lib.hid (by rw [HSAY.out, HDR.out, ← HQ.out]; exact hsay)
      rw [hfr] at z1
      have HLAST := Lib.hid hlast
      clear hnew hjoi hgc hb hfr hq hjk m6 hsay hlast
      go_upto_region 9 with fail
      go_quiet (fail)
      clear z0 z1 i7
      have HY : Hid (Holds (wz.drewN nq) g8 A' ∧ (wz.drewN nq).ownsRow w.heap.size 50 7 (.slice (some ⟨g, 0, none⟩) out.length ca) out.length (aggV out) ∧ Below w.heap.size w (wz.drewN nq) ∧ HoldsAt (wz.drewN nq) g (q * 7) b1) := Lib.hid ⟨HZ.out.1.below (belowN _ _), own7_below HZ.out.2.1 (belowN _ _), past HZ.out.2.2.1 (belowN _ _), HLAST.out.below (belowN _ _)⟩
      generalize wz.drewN nq = wy at *
      obtain ⟨d0, d1, d2, d3, d4, d5, d6⟩ := HY.out.1
      obtain ⟨e0, e1, e2, e3, e4, e5, e6⟩ := HY.out.2.2.2
      have HSK : Hid (∀ w', Below wy.heap.size wy w' → w'.cell? ⟨g, q * 7, none⟩ = some (.int .i64 b1.fr) ∧ w'.cell? ⟨g, q * 7 + 1, none⟩ = some (.int .i64 b1.cn) ∧ w'.cell? ⟨g, q * 7 + 2, none⟩ = some (.int .i64 b1.sm) ∧ w'.cell? ⟨g, q * 7 + 3, none⟩ = some (.int .i64 b1.mn) ∧ w'.cell? ⟨g, q * 7 + 4, none⟩ = some (.int .i64 b1.mx) ∧ w'.cell? ⟨g, q * 7 + 5, none⟩ = some (.int .i64 b1.fi) ∧ w'.cell? ⟨g, q * 7 + 6, none⟩ = some (.int .i64 b1.la) ∧ w'.cell? ⟨g8, 0, none⟩ = some (.int .i64 A'.fr) ∧ w'.cell? ⟨g8, 1, none⟩ = some (.int .i64 A'.cn) ∧ w'.cell? ⟨g8, 2, none⟩ = some (.int .i64 A'.sm) ∧ w'.cell? ⟨g8, 3, none⟩ = some (.int .i64 A'.mn) ∧ w'.cell? ⟨g8, 4, none⟩ = some (.int .i64 A'.mx) ∧ w'.cell? ⟨g8, 5, none⟩ = some (.int .i64 A'.fi) ∧ w'.cell? ⟨g8, 6, none⟩ = some (.int .i64 A'.la)) := Lib.hid (fun w' hb => by
        obtain ⟨e0, e1, e2, e3, e4, e5, e6⟩ := HY.out.2.2.2.below hb
        exact ⟨e0, e1, e2, e3, e4, e5, e6, HY.out.1.below hb⟩)
      go_upto_region 11 with fail
      have hlt8 : g8 < wy.heap.size := HY.out.1.lt
      have hltg : g < wy.heap.size := HY.out.2.2.2.lt
      have hne8 : g8 ≠ wy.heap.size := by omega
      have hneg : g ≠ wy.heap.size := by omega
      clear hgl
      go_region_with (first
          | (go_at_call 93; refine (M6.out _).mono ?_; rintro e wt ⟨rfl, hbt⟩
             first
               | (have hB : Below wy.heap.size wy wt := (belowN wy 1).trans hbt)
               | (have hbt' := (belowN (wy.alloc (.cells #[.int .i64 0, .int .i64 0, .int .i64 0, .int .i64 0, .int .i64 0, .int .i64 0, .int .i64 0] 50)) 1).trans hbt
                  have hB : Below wy.heap.size wy wt := past (past_alloc (Below.refl _ _) _) hbt'
                  have hz8 : Holds wt wy.heap.size Ag.zero := (zero_new wy).1.below hbt'
                  have hf8 : Free wt wy.heap.size := (zero_new wy).2.1.below (zero_new wy).2.2 hbt'
                  unfold Ag.zero at hz8
                  obtain ⟨z0, z1, z2, z3, z4, z5, z6⟩ := hz8
                  obtain ⟨f0, f1, f2, f3, f4, f5, f6⟩ := hf8)))
      all_goals first
        | (have HT : Hid (Holds (((((((wt.setCell ⟨wy.heap.size, 0, none⟩ (.int .i64 ja.fr)).setCell ⟨wy.heap.size, 1, none⟩ (.int .i64 ja.cn)).setCell ⟨wy.heap.size, 2, none⟩ (.int .i64 ja.sm)).setCell ⟨wy.heap.size, 3, none⟩ (.int .i64 ja.mn)).setCell ⟨wy.heap.size, 4, none⟩ (.int .i64 ja.mx)).setCell ⟨wy.heap.size, 5, none⟩ (.int .i64 ja.fi)).setCell ⟨wy.heap.size, 6, none⟩ (.int .i64 ja.la)) wy.heap.size ja ∧ (((((((wt.setCell ⟨wy.heap.size, 0, none⟩ (.int .i64 ja.fr)).setCell ⟨wy.heap.size, 1, none⟩ (.int .i64 ja.cn)).setCell ⟨wy.heap.size, 2, none⟩ (.int .i64 ja.sm)).setCell ⟨wy.heap.size, 3, none⟩ (.int .i64 ja.mn)).setCell ⟨wy.heap.size, 4, none⟩ (.int .i64 ja.mx)).setCell ⟨wy.heap.size, 5, none⟩ (.int .i64 ja.fi)).setCell ⟨wy.heap.size, 6, none⟩ (.int .i64 ja.la)).ownsRow w.heap.size 50 7 (.slice (some ⟨g, 0, none⟩) out.length ca) out.length (aggV out) ∧ Below w.heap.size w (((((((wt.setCell ⟨wy.heap.size, 0, none⟩ (.int .i64 ja.fr)).setCell ⟨wy.heap.size, 1, none⟩ (.int .i64 ja.cn)).setCell ⟨wy.heap.size, 2, none⟩ (.int .i64 ja.sm)).setCell ⟨wy.heap.size, 3, none⟩ (.int .i64 ja.mn)).setCell ⟨wy.heap.size, 4, none⟩ (.int .i64 ja.mx)).setCell ⟨wy.heap.size, 5, none⟩ (.int .i64 ja.fi)).setCell ⟨wy.heap.size, 6, none⟩ (.int .i64 ja.la)) ∧ w.heap.size ≤ g) := Lib.hid (by
             have hno : (Value.slice (some ⟨g, 0, none⟩) out.length ca).ownBlock ≠ some wy.heap.size := fun e => hneg (Option.some.inj e)
             refine ⟨holds_set (a0 := Ag.zero) ⟨z0, z1, z2, z3, z4, z5, z6⟩, ?_, below_set (past HY.out.2.2.1 hB) HY.out.2.2.1.size _ _ _ _ _ _ _, hwg⟩
             exact ownsRow_setCell_other (ownsRow_setCell_other (ownsRow_setCell_other (ownsRow_setCell_other (ownsRow_setCell_other (ownsRow_setCell_other (ownsRow_setCell_other (own7_below HY.out.2.1 hB) hno _) hno _) hno _) hno _) hno _) hno _) hno _)
           clear z0 z1 z2 z3 z4 z5 z6 f0 f1 f2 f3 f4 f5 f6 hbt hbt' hB d0 d1 d2 d3 d4 d5 d6 e0 e1 e2 e3 e4 e5 e6 hne8 hneg hlt8 hltg HSK HY M6
           generalize (((((((wt.setCell ⟨wy.heap.size, 0, none⟩ (.int .i64 ja.fr)).setCell ⟨wy.heap.size, 1, none⟩ (.int .i64 ja.cn)).setCell ⟨wy.heap.size, 2, none⟩ (.int .i64 ja.sm)).setCell ⟨wy.heap.size, 3, none⟩ (.int .i64 ja.mn)).setCell ⟨wy.heap.size, 4, none⟩ (.int .i64 ja.mx)).setCell ⟨wy.heap.size, 5, none⟩ (.int .i64 ja.fi)).setCell ⟨wy.heap.size, 6, none⟩ (.int .i64 ja.la)) = wq at *
           generalize wy.heap.size = g10 at *)
        | (have HT : Hid (Holds (wt.alloc (.cells #[.int .i64 ja.fr, .int .i64 ja.cn, .int .i64 ja.sm, .int .i64 ja.mn, .int .i64 ja.mx, .int .i64 ja.fi, .int .i64 ja.la] 50)) wt.heap.size ja ∧ (wt.alloc (.cells #[.int .i64 ja.fr, .int .i64 ja.cn, .int .i64 ja.sm, .int .i64 ja.mn, .int .i64 ja.mx, .int .i64 ja.fi, .int .i64 ja.la] 50)).ownsRow w.heap.size 50 7 (.slice (some ⟨g, 0, none⟩) out.length ca) out.length (aggV out) ∧ Below w.heap.size w (wt.alloc (.cells #[.int .i64 ja.fr, .int .i64 ja.cn, .int .i64 ja.sm, .int .i64 ja.mn, .int .i64 ja.mx, .int .i64 ja.fi, .int .i64 ja.la] 50)) ∧ w.heap.size ≤ g) := Lib.hid
             ⟨Holds.new wt ja, own7_below HY.out.2.1 (past_alloc hB _), past_alloc (past HY.out.2.2.1 hB) _, hwg⟩
           clear hbt hB d0 d1 d2 d3 d4 d5 d6 e0 e1 e2 e3 e4 e5 e6 hne8 hneg hlt8 hltg HSK HY M6
           generalize (wt.alloc (.cells #[.int .i64 ja.fr, .int .i64 ja.cn, .int .i64 ja.sm, .int .i64 ja.mn, .int .i64 ja.mx, .int .i64 ja.fi, .int .i64 ja.la] 50)) = wq at *
           generalize wt.heap.size = g10 at *)
      all_goals
        by_cases hz : jc = 0
        case neg =>
          have HN : Hid (R = ([], jc)) := Lib.hid (by rw [HS2.out, if_neg hz])
          have hz' : (jc == 0) = false := by simpa using hz
          go_wp2
          (try rw [Exit.noGoto_ret])
          go_ret2
          refine ⟨.slice none 0 0, ?_, HT.out.2.2.1, ?_, ?_⟩
          · rw [HN.out]; rfl
          · rw [HN.out]; exact World.ownsRow_nil _ _ _ _
          · rw [HN.out]; simp
        have HN : Hid (R = downOn k (out.set q ja) (l.drop (j + 1))) := Lib.hid (by rw [HS2.out, if_pos hz])
        subst hz
        obtain ⟨d0, d1, d2, d3, d4, d5, d6⟩ := HT.out.1
        have HQ2 : Hid (q < out.length) := Lib.hid (by omega)
        obtain ⟨e0, e1, e2, e3, e4, e5, e6⟩ : HoldsAt wq g (q * 7) (agAt out q) := by
          obtain ⟨g', ca', e, _, _, _, _, hg⟩ := own7_form HT.out.2.1 hL
          injection e with e
          injection e with e
          injection e with e
          subst e
          exact hg q HQ2.out
        have f0 := HT.out.2.1.frozenAt (q * 7)
        have f1 := HT.out.2.1.frozenAt (q * 7 + 1)
        have f2 := HT.out.2.1.frozenAt (q * 7 + 2)
        have f3 := HT.out.2.1.frozenAt (q * 7 + 3)
        have f4 := HT.out.2.1.frozenAt (q * 7 + 4)
        have f5 := HT.out.2.1.frozenAt (q * 7 + 5)
        have f6 := HT.out.2.1.frozenAt (q * 7 + 6)
        have HNEW : Hid (DownInv w (((((((wq.setCell ⟨g, q * 7, none⟩ (.int .i64 ja.fr)).setCell ⟨g, q * 7 + 1, none⟩ (.int .i64 ja.cn)).setCell ⟨g, q * 7 + 2, none⟩ (.int .i64 ja.sm)).setCell ⟨g, q * 7 + 3, none⟩ (.int .i64 ja.mn)).setCell ⟨g, q * 7 + 4, none⟩ (.int .i64 ja.mx)).setCell ⟨g, q * 7 + 5, none⟩ (.int .i64 ja.fi)).setCell ⟨g, q * 7 + 6, none⟩ (.int .i64 ja.la)) k (j + 1) l (out.set q ja) (.slice (some ⟨g, 0, none⟩) out.length ca) R) := Lib.hid (by
          refine ⟨HN.out, ?_, ?_, ?_, below_set7 HT.out.2.2.1 HT.out.2.2.2⟩
          · have := HD.out.room
            rw [List.length_set]
            omega
          · rw [← aggV_set ja out q HQ2.out, List.length_set]
            exact ((((((((((((((HT.out.2.1).stored (q * 7) (.int .i64 ja.fr)).1).stored (q * 7 + 1) (.int .i64 ja.cn)).1).stored (q * 7 + 2) (.int .i64 ja.sm)).1).stored (q * 7 + 3) (.int .i64 ja.mn)).1).stored (q * 7 + 4) (.int .i64 ja.mx)).1).stored (q * 7 + 5) (.int .i64 ja.fi)).1).stored (q * 7 + 6) (.int .i64 ja.la)).1
          · intro x hx
            rcases List.mem_or_eq_of_mem_set hx with hx | rfl
            · exact HD.out.ok x hx
            · exact HJK.out)
        clear HT
        go_wp2
        go_roundw
        case rel => exact ⟨out.set q ja, j + 1, by omega, by go_num, HNEW⟩
        case measure => simp [intOf]; omega
    · obtain ⟨A, ca, hv, hrow⟩ := rowOf_own HD.out.own HD.out.ok
      have HN : Hid (R = (out, 0)) := Lib.hid (by rw [HD.out.says, List.drop_eq_nil_of_le (by rw [HL.out]; omega), downOn])
      have HV := Lib.hid hv
      have HROW := Lib.hid hrow
      clear hv hrow
      go_wp2
      (try rw [Exit.noGoto_ret])
      go_ret2
      refine ⟨.slice A out.length ca, ?_, HD.out.below, ?_, ?_⟩
      · rw [HN.out, HV.out]; rfl
      · rw [HN.out, ← HV.out]; exact HD.out.own
      · rw [HN.out]; exact HD.out.ok
end Go.Proofs.YtepancmkopifpaaGreatDoor
