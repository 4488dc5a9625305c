/-
  read: what bytes say, of any bytes; nothing that was there is written.
-/
import Derived.Test.YtdpoahjgdndnhaaDoorEReadW
import Derived.Deep.Light
import Derived.Deep.CutBlock
set_option maxRecDepth 100000
namespace Go.Proofs.YtdpoahjgdndnhaaDoor
open Go.RowKit
attribute [local go_sem ↓] Go.wp_at_zero Go.wp_at_succ
set_option linter.unusedVariables false

def ReadPost (w : World) (bs : List Nat) (en : Ending) (w' : World) : Prop := en = .returned (readE bs).val ∧ Below w.heap.size w w'

theorem alloc_keeps {w : World} {a : Addr} {v : Value} (h : w.cell? a = some v) (o : Obj) : (w.alloc o).cell? a = some v := by
  have := World.block_lt_of_cell? w a h
  rw [(below_box w o).cell this]
  exact h
theorem set8_keeps {w : World} {g : Nat} {a : Addr} {v : Value} (h : w.cell? a = some v) (hne : g ≠ a.block) (v0 v1 v2 v3 v4 v5 v6 v7 : Value) :
    ((((((((w.setCell ⟨g, 0, none⟩ v0).setCell ⟨g, 1, none⟩ v1).setCell ⟨g, 2, none⟩ v2).setCell ⟨g, 3, none⟩ v3).setCell ⟨g, 4, none⟩ v4).setCell ⟨g, 5, none⟩ v5).setCell ⟨g, 6, none⟩ v6).setCell ⟨g, 7, none⟩ v7).cell? a = some v := by
  rw [World.cell?_setCell_far _ _ _ _ hne, World.cell?_setCell_far _ _ _ _ hne, World.cell?_setCell_far _ _ _ _ hne, World.cell?_setCell_far _ _ _ _ hne, World.cell?_setCell_far _ _ _ _ hne, World.cell?_setCell_far _ _ _ _ hne, World.cell?_setCell_far _ _ _ _ hne, World.cell?_setCell_far _ _ _ _ hne]
  exact h
/-- Behind the kind and the view. -/
def RdMid (w : World) (gR : Nat) (c : Nat) (r : List Nat) (s4 : Value) (wx : World) : Prop :=
  ∃ gE, s4 = .pointer (some ⟨gE, 0, none⟩) ∧ RS w wx gR gE (numT r).2 ⟨(c : Int), toI (numT r).1, 0, 0, 0, 0, 0, []⟩
theorem RS.new_ {w u u' : World} {gR : Nat} {bs : List Nat} {en : Ending} (e : Ent) (hu : Below w.heap.size w u) (hz : EV u w.heap.size Ent.zero) (h2 : w.heap.size < gR) (hp : NumPost2 u gR w.heap.size bs en u') :
    RS w (u'.alloc (.cells #[.int .i64 e.kd, .int .i64 e.vw, .int .i64 e.id, .int .i64 e.tr, .int .i64 e.fr, .int .i64 e.tl, .int .u32 e.sm, .string ⟨e.tx.toArray⟩] 25)) gR u'.heap.size (numT bs).2 e := by
  obtain ⟨_, hr, hg, hf⟩ := hp
  obtain ⟨A0, n0, cap0, hc0, _⟩ := hr.c
  have hlt : gR < u'.heap.size := World.block_lt_of_cell? u' _ hc0
  have hzz : EV u' w.heap.size Ent.zero := hz.grown hg hf (fun e => by have := Option.some.inj e; omega)
  have hb : Below w.heap.size w u' := hu.grown hg hu.size (fun k e => by cases e; exact Nat.le_of_lt h2)
  exact ⟨hr.below (below_box _ _), EV.new u' e, hzz.below (below_box _ _), past hb (below_box _ _), Nat.ne_of_lt hlt, h2, Nat.lt_trans h2 hlt⟩
set_option maxHeartbeats 2000000 in
theorem EV.set8 {w : World} {g : Nat} {e0 : Ent} (h : EV w g e0) (e : Ent) :
    EV ((((((((w.setCell ⟨g, 0, none⟩ (.int .i64 e.kd)).setCell ⟨g, 1, none⟩ (.int .i64 e.vw)).setCell ⟨g, 2, none⟩ (.int .i64 e.id)).setCell ⟨g, 3, none⟩ (.int .i64 e.tr)).setCell ⟨g, 4, none⟩ (.int .i64 e.fr)).setCell ⟨g, 5, none⟩ (.int .i64 e.tl)).setCell ⟨g, 6, none⟩ (.int .u32 e.sm)).setCell ⟨g, 7, none⟩ (.string ⟨e.tx.toArray⟩)) g e := by
  have hf := h.fz
  obtain ⟨c0, c1, c2, c3, c4, c5, c6, c7, _⟩ := h
  exact ⟨by simp [go_sem, *], by simp [go_sem, *], by simp [go_sem, *], by simp [go_sem, *], by simp [go_sem, *], by simp [go_sem, *], by simp [go_sem, *], by simp [go_sem, *], fun i hi => by simpa using hf i hi⟩
set_option maxHeartbeats 2000000 in
theorem RS.set8_ {w u u' : World} {gR gE : Nat} {bs : List Nat} {en : Ending} {e0 : Ent} (e : Ent) (hu : Below w.heap.size w u) (hz : EV u w.heap.size Ent.zero) (h2 : w.heap.size < gR) (h3 : gR < gE) (hp : NumPost2 u gR w.heap.size bs en u') (hev : EV u' gE e0) :
    RS w ((((((((u'.setCell ⟨gE, 0, none⟩ (.int .i64 e.kd)).setCell ⟨gE, 1, none⟩ (.int .i64 e.vw)).setCell ⟨gE, 2, none⟩ (.int .i64 e.id)).setCell ⟨gE, 3, none⟩ (.int .i64 e.tr)).setCell ⟨gE, 4, none⟩ (.int .i64 e.fr)).setCell ⟨gE, 5, none⟩ (.int .i64 e.tl)).setCell ⟨gE, 6, none⟩ (.int .u32 e.sm)).setCell ⟨gE, 7, none⟩ (.string ⟨e.tx.toArray⟩)) gR gE (numT bs).2 e := by
  obtain ⟨_, hr, hg, hf⟩ := hp
  have hzz : EV u' w.heap.size Ent.zero := hz.grown hg hf (fun e => by have := Option.some.inj e; omega)
  have hb : Below w.heap.size w u' := hu.grown hg hu.size (fun k e => by cases e; exact Nat.le_of_lt h2)
  have h23 := Nat.lt_trans h2 h3
  have ne1 : gE ≠ gR := Nat.ne_of_gt h3
  have ne2 : gE ≠ w.heap.size := Nat.ne_of_gt h23
  have hle := Nat.le_of_lt h23
  exact ⟨(((((((hr.far ne1 hle _).far ne1 hle _).far ne1 hle _).far ne1 hle _).far ne1 hle _).far ne1 hle _).far ne1 hle _).far ne1 hle _, hev.set8 e, (((((((hzz.far ne2 _).far ne2 _).far ne2 _).far ne2 _).far ne2 _).far ne2 _).far ne2 _).far ne2 _, below_set8 hb hle _ _ _ _ _ _ _ _, ne1.symm, h2, h23⟩

theorem numT_len (bs : List Nat) : (numT bs).2.length ≤ bs.length := by
  cases hd : dec 0 0 bs with
  | none => rw [numT_none hd]; exact Nat.le_refl _
  | some x => rw [numT_some hd]; simp
theorem RS.new2 {w u u' : World} {gR : Nat} {bs : List Nat} {en : Ending} (x y : Int) (hu : Below w.heap.size w u) (hz : EV u w.heap.size Ent.zero) (h2 : w.heap.size < gR) (hp : NumPost2 u gR w.heap.size bs en u') :
    RS w (u'.alloc (.cells #[.int .i64 x, .int .i64 y, .int .i64 0, .int .i64 0, .int .i64 0, .int .i64 0, .int .u32 0, .string ⟨#[]⟩] 25)) gR u'.heap.size (numT bs).2 ⟨x, y, 0, 0, 0, 0, 0, []⟩ :=
  RS.new_ ⟨x, y, 0, 0, 0, 0, 0, []⟩ hu hz h2 hp
theorem RS.set82 {w u u' : World} {gR gE : Nat} {bs : List Nat} {en : Ending} (x y : Int) (hu : Below w.heap.size w u) (hz : EV u w.heap.size Ent.zero) (h2 : w.heap.size < gR) (h3 : gR < gE) (hp : NumPost2 u gR w.heap.size bs en u') (hev : EV u' gE Ent.zero) :
    RS w ((((((((u'.setCell ⟨gE, 0, none⟩ (.int .i64 x)).setCell ⟨gE, 1, none⟩ (.int .i64 y)).setCell ⟨gE, 2, none⟩ (.int .i64 0)).setCell ⟨gE, 3, none⟩ (.int .i64 0)).setCell ⟨gE, 4, none⟩ (.int .i64 0)).setCell ⟨gE, 5, none⟩ (.int .i64 0)).setCell ⟨gE, 6, none⟩ (.int .u32 0)).setCell ⟨gE, 7, none⟩ (.string ⟨#[]⟩)) gR gE (numT bs).2 ⟨x, y, 0, 0, 0, 0, 0, []⟩ :=
  RS.set8_ ⟨x, y, 0, 0, 0, 0, 0, []⟩ hu hz h2 h3 hp hev
theorem RdAt.lt64 {w : World} {g B : Nat} {bs : List Nat} (h : RdAt w g B bs) : (numT bs).1 < 18446744073709551616 := by
  obtain ⟨A, n, cap, hc, hr, hne⟩ := h.c
  exact numT_lt hr.bytes.1
/-- The end of read's switch. -/
structure RE (w W : World) (gE : Nat) (e : Ent) : Prop where
  ev : EV W gE e
  z : EV W w.heap.size Ent.zero
  below : Below w.heap.size w W
  n3 : w.heap.size < gE
theorem RS.re {w W : World} {gR gE : Nat} {bs : List Nat} {e : Ent} (h : RS w W gR gE bs e) : RE w W gE e := ⟨h.ev, h.z, h.below, h.n3⟩
theorem RS.call {w W : World} {gR gE : Nat} {bs : List Nat} {e : Ent} (h : RS w W gR gE bs e) : Calls Tryd.prog 65 #[.pointer (some ⟨gR, 0, none⟩)] W (fun en W' => en = .returned (.int .u64 ((numT bs).1 : Int)) ∧ RS w W' gR gE (numT bs).2 e) :=
  (number_any h.rd).mono fun en W' hp => h.num hp
theorem RS.calltext {w W : World} {gR gE : Nat} {bs : List Nat} {e : Ent} (h : RS w W gR gE bs e) (hl : bs.length ≤ 140737488355328) : Calls Tryd.prog 66 #[.pointer (some ⟨gR, 0, none⟩)] W (fun en W' => en = .returned (str (textT bs)) ∧ RE w W' gE e) :=
  (text_any h.rd hl).mono fun en W' hp => ⟨hp.1, h.ev.grown hp.2.1 hp.2.2 (fun e => h.n1 (Option.some.inj e).symm), h.z.grown hp.2.1 hp.2.2 (fun e => by have := Option.some.inj e; have := h.n2; omega), h.below.grown hp.2.1 h.below.size (fun k e => by cases e; exact Nat.le_of_lt h.n2), h.n3⟩
theorem RE.set7 {w W : World} {gE : Nat} {e : Ent} (h : RE w W gE e) (v : List UInt8) : RE w (W.setCell ⟨gE, 7, none⟩ (str v)) gE { e with tx := v } :=
  ⟨h.ev.set7 v, h.z.far (fun e => by have := h.n3; simp only at e; omega) _, h.below.setCell (Nat.le_of_lt h.n3) _, h.n3⟩

theorem read_none (A : Option Addr) (cap : Nat) (w : World) : Calls Tryd.prog 41 #[.slice A 0 cap] w (ReadPost w []) := by
  unfold ReadPost readE Ent.val Ent.zero str
  go_enter Tryd.func41, Tryd.ntmps41
  go_wp2
  refine bodyPost_ret (v := .agg #[.int .i64 0, .int .i64 0, .int .i64 0, .int .i64 0, .int .i64 0, .int .i64 0, .int .u32 0, .string ⟨#[]⟩]) ?_ rfl ⟨rfl, ?_⟩
  · simp [results, Tryd.results41, go_sem]
  · first | exact past_alloc (Below.refl _ _) _ | exact below_set8 (past_alloc (Below.refl _ _) _) (Nat.le_refl _) _ _ _ _ _ _ _ _

set_option maxHeartbeats 20000000 in
theorem read_some {A : Option Addr} {n cap : Nat} {c : Nat} {r : List Nat} {w : World} (h : BRow w A n cap (c :: r)) (hl : n ≤ 140737488355328) : Calls Tryd.prog 41 #[.slice A n cap] w (ReadPost w (c :: r)) := by
  have hn : n = r.length + 1 := by rw [← h.len]; rfl
  have hc256 : c < 256 := h.bytes.1 c (by simp)
  obtain ⟨b, off, rfl, hcell⟩ := h.bytes.at_ (by simp)
  have hb0 : w.cell? ⟨b, off, none⟩ = some (.int .u8 (c : Int)) := by have := hcell 0 (by simp); simpa using this
  have hbl : b < w.heap.size := World.block_lt_of_cell? w _ hb0
  obtain ⟨A2, hsl, hr2, ha2⟩ := slice_off (k := 1) h (by omega)
  have hr2' : BRow w A2 (n - 1) (cap - 1) r := hr2
  have HA2 : Hid (∀ ad, A2 = some ad → ad.block < w.heap.size) := Lib.hid (fun ad e => by
    obtain ⟨a0, e0, e1⟩ := ha2 ad e
    rw [e1]
    injection e0 with e0
    rw [← e0]
    exact hbl)
  have HAE : Hid ((if cap = 1 then (some ⟨b, off, none⟩ : Option Addr) else some ⟨b, off + 1, none⟩) = A2) := Lib.hid (by
    have h3 := hsl w
    rw [run_slice_l w 26 (some ⟨b, off, none⟩) n cap Tryd.underlying26 .i64 ((1 : Nat) : Int) (by omega) (by have := h.le; omega), size29] at h3
    simp [Result.andThen, sliced, addr_add] at h3
    exact h3)
  obtain ⟨W2, hW2⟩ : ∃ W2, W2 = w.alloc (.cells #[.int .i64 0, .int .i64 0, .int .i64 0, .int .i64 0, .int .i64 0, .int .i64 0, .int .u32 0, .string ⟨#[]⟩] 25) := ⟨_, rfl⟩
  obtain ⟨W3, hW3⟩ : ∃ W3, W3 = W2.alloc (.cells #[.slice A2 (n - 1) (cap - 1)] 98) := ⟨_, rfl⟩
  have hb2 : Below w.heap.size w W2 := by rw [hW2]; exact below_box _ _
  have hs2 : W2.heap.size = w.heap.size + 1 := by rw [hW2]; simp
  have hb23 : Below W2.heap.size W2 W3 := by rw [hW3]; exact below_box _ _
  have hs3 : W3.heap.size = W2.heap.size + 1 := by rw [hW3]; simp
  have hb3 : Below w.heap.size w W3 := past hb2 hb23
  have hz : EV W3 w.heap.size Ent.zero := by
    refine EV.below (w := W2) ?_ hb23
    rw [hW2]
    exact EV.new w Ent.zero
  have hrd : RdAt W3 W2.heap.size w.heap.size r := ⟨⟨A2, n - 1, cap - 1, by rw [hW3]; simp, hr2'.below hb3, HA2.out⟩, by omega, by rw [hW3]; simp⟩
  have HL1 := Lib.hid (Nat.le_trans (numT_len r) (show r.length ≤ 140737488355328 by omega))
  have HR := Lib.hid hrd
  have HZ := Lib.hid hz
  have HB3 := Lib.hid hb3
  have M := Lib.hid (fun (u : World) (hu : Below W3.heap.size W3 u) => number_any (hrd.below hu))
  have hV := numT_lt hr2'.bytes.1
  have e1 : ((n : Int) == 0) = false := by simp; omega
  have hk1 : (1 : Int) ≤ (n : Int) := by omega
  have HX0 : Hid (0 < n) := Lib.hid (by omega)
  have HW2 := Lib.hid hW2
  have HW3 := Lib.hid hW3
  have hgb : b ≠ W2.heap.size := by omega
  have hc3 : W3.cell? ⟨b, off, none⟩ = some (.int .u8 (c : Int)) := by rw [hb3.cell hbl]; exact hb0
  have HS2 := Lib.hid hs2
  have HS3 := Lib.hid hs3
  have hg2 : w.heap.size < W2.heap.size := by omega
  have hg3 : W2.heap.size < W3.heap.size := by omega
  clear hW2 hW3 hr2 hr2' hrd hz h hcell hn hs2 hs3 hsl
  have wcc : IntKind.i64.wrap (c : Int) = (c : Int) := by simp [IntKind.wrap, IntKind.bits, IntKind.signed]; omega
  have wv := wrap_i64 hV
  go_enter Tryd.func41, Tryd.ntmps41
  go_upto_region 1 with fail
  rw [← HW2.out]
  go_upto_region 4 with fail
  rw [HAE.out, ← HW3.out]
  have hx0' := HX0.out
  have hx0 : (0 : Int) < (n : Int) := by omega
  have hge1 : W2.heap.size ≠ W3.heap.size := by omega
  have hge2 : b ≠ W3.heap.size := by omega
  have HCB : Hid (∀ u u', Below W3.heap.size W3 u → u.grownBy u' (some W2.heap.size) → u'.cell? ⟨b, off, none⟩ = some (.int .u8 (c : Int))) := Lib.hid (fun u u' hu hg => hg.cell (by rw [hu.cell (show b < W3.heap.size by omega)]; exact hc3) (fun e => hgb (Option.some.inj e)))
  go_cut [4] (fun s4 wx => Hid (RdMid w W2.heap.size c r s4 wx))
  case first =>
    generalize hVV : (numT r).1 = V at *
    have HBA : Hid (Below W3.heap.size W3 (W3.alloc (.cells #[.int .i64 0, .int .i64 0, .int .i64 0, .int .i64 0, .int .i64 0, .int .i64 0, .int .u32 0, .string ⟨#[]⟩] 25)).drew) := Lib.hid (past (below_box _ _) (below_drewN _ 1))
    have HEA : Hid (∀ u', NumPost2 (W3.alloc (.cells #[.int .i64 0, .int .i64 0, .int .i64 0, .int .i64 0, .int .i64 0, .int .i64 0, .int .u32 0, .string ⟨#[]⟩] 25)).drew W2.heap.size w.heap.size r (.returned (.int .u64 (V : Int))) u' → EV u' W3.heap.size Ent.zero) := Lib.hid (fun u' hp => by
      have h0 : EV (W3.alloc (.cells #[.int .i64 0, .int .i64 0, .int .i64 0, .int .i64 0, .int .i64 0, .int .i64 0, .int .u32 0, .string ⟨#[]⟩] 25)).drew W3.heap.size Ent.zero := EV.below (EV.new W3 Ent.zero) (below_drewN _ 1)
      exact h0.grown hp.2.2.1 hp.2.2.2 (fun e => hge1 (Option.some.inj e).symm))
    have HBN : Hid (∀ u : World, W3.heap.size ≤ u.heap.size → b ≠ u.heap.size) := Lib.hid (fun u hu => by omega)
    have q0 := alloc_keeps hc3 (.cells #[.int .i64 0, .int .i64 0, .int .i64 0, .int .i64 0, .int .i64 0, .int .i64 0, .int .u32 0, .string ⟨#[]⟩] 25)
    go_region_with (first
      | (refine (M.out _ (below_drewN W3 1)).mono ?_; rintro en W4 ⟨he4, hp4⟩; subst he4; have HU := Lib.hid (below_drewN W3 1); have HP4 := Lib.hid hp4; have hb4 := HCB.out _ _ (below_drewN W3 1) hp4.2.1; have hb4n := HBN.out W4 hp4.2.1.size; have hb4a := alloc_keeps hb4 (.cells #[.int .i64 0, .int .i64 0, .int .i64 0, .int .i64 0, .int .i64 0, .int .i64 0, .int .u32 0, .string ⟨#[]⟩] 25); clear hp4)
      | (refine (M.out _ HBA.out).mono ?_; rintro en W4 ⟨he4, hp4⟩; subst he4; have HU := Lib.hid HBA.out; have HP4 := Lib.hid hp4; have hb4 := HCB.out _ _ HBA.out hp4.2.1; have hY := HEA.out W4 ⟨by rw [hVV], hp4⟩; clear hp4; have HY := Lib.hid hY; have y0 := hY.c0; have y1 := hY.c1; have y2 := hY.c2; have y3 := hY.c3; have y4 := hY.c4; have y5 := hY.c5; have y6 := hY.c6; have y7 := hY.c7; have k0 := hY.fz 0 (by decide); have k1 := hY.fz 1 (by decide); have k2 := hY.fz 2 (by decide); have k3 := hY.fz 3 (by decide); have k4 := hY.fz 4 (by decide); have k5 := hY.fz 5 (by decide); have k6 := hY.fz 6 (by decide); have k7 := hY.fz 7 (by decide); clear hY)
      | fail)
    all_goals (clear hb4; rename_i hM; refine hM _ _ ?_; go_meet; refine Lib.hid ⟨_, rfl, ?_⟩; go_light)
    all_goals first
      | (have hP := RS.new2 (c : Int) (toI V) (past HB3.out HU.out) (HZ.out.below HU.out) hg2 ⟨by rw [hVV], HP4.out⟩; rw [hVV]; with_reducible exact hP)
      | (have hP := RS.set82 (c : Int) (toI V) (past HB3.out HU.out) (HZ.out.below HU.out) hg2 hg3 ⟨by rw [hVV], HP4.out⟩ HY.out; rw [hVV]; with_reducible exact hP)
  case rest =>
    obtain ⟨gE, rfl, hrs⟩ := hcut.out
    have hl1 : (numT r).2.length ≤ 140737488355328 := HL1.out
    clear hcut HR HZ HB3 M HW2 HW3 hgb hc3 HS2 HS3 hg2 hg3 wcc wv HCB hx0' hx0 hge1 hge2 HX0 hk1 HAE HA2 ha2 hb23 hb3 HL1
    have hv0' : ∃ v0, v0 = (numT r).1 := ⟨_, rfl⟩
    obtain ⟨v0, hv0⟩ := hv0'
    have hr0' : ∃ r0, r0 = (numT r).2 := ⟨_, rfl⟩
    obtain ⟨r0, hr0⟩ := hr0'
    have hgR' : ∃ gR, gR = W2.heap.size := ⟨_, rfl⟩
    obtain ⟨gR, hgR⟩ := hgR'
    rw [← hv0, ← hr0, ← hgR] at hrs
    rw [← hr0] at hl1
    rw [← hgR]
    have HV := Lib.hid hv0
    have HR0 := Lib.hid hr0
    clear hv0 hr0 hgR hV
    have HRS := Lib.hid hrs
    have q0 := hrs.ev.c0
    have HL := Lib.hid hl1
    clear hrs hl1
    go_upto_block 0 with fail
    go_cut [4] (fun s4 wx => s4 = .pointer (some ⟨gE, 0, none⟩) ∧ Hid (RE w wx gE (readE (c :: r))))
    case first =>
      rename_i hMM
      clear q0
      have HMM := Lib.hid hMM
      clear hMM
      by_cases h1 : c = 1
      · subst h1
        have M := Lib.hid HRS.out.call
        have hw := wrap_i64 HRS.out.rd.lt64
        go_wp2_with fail
        refine M.out.mono ?_
        rintro en W0 ⟨rfl, hr⟩
        clear M HRS
        have c_ := hr.ev.c2
        have f_ := hr.ev.fz 2 (by decide)
        have HRS := Lib.hid (hr.set 2 _ (hr.ev.set2 (toI (numT r0).1)))
        clear hr
        obtain ⟨x0, hx0⟩ : ∃ x0, x0 = toI (numT r0).1 := ⟨_, rfl⟩
        obtain ⟨r1, hq0⟩ : ∃ r1, r1 = (numT r0).2 := ⟨_, rfl⟩
        rw [← hq0] at HRS
        rw [← hx0] at HRS hw
        have HX0 := Lib.hid hx0
        have HQ0 := Lib.hid hq0
        clear hx0 hq0
        go_upto_region 8 with fail
        clear hw c_ f_
        generalize W0.setCell _ _ = V0 at *
        have M := Lib.hid HRS.out.call
        have hw := wrap_i64 HRS.out.rd.lt64
        go_wp2_with fail
        refine M.out.mono ?_
        rintro en W1 ⟨rfl, hr⟩
        clear M HRS
        have c_ := hr.ev.c3
        have f_ := hr.ev.fz 3 (by decide)
        have HRS := Lib.hid (hr.set 3 _ (hr.ev.set3 (toI (numT r1).1)))
        clear hr
        obtain ⟨x1, hx1⟩ : ∃ x1, x1 = toI (numT r1).1 := ⟨_, rfl⟩
        obtain ⟨r2, hq1⟩ : ∃ r2, r2 = (numT r1).2 := ⟨_, rfl⟩
        rw [← hq1] at HRS
        rw [← hx1] at HRS hw
        have HX1 := Lib.hid hx1
        have HQ1 := Lib.hid hq1
        clear hx1 hq1
        go_upto_region 9 with fail
        clear hw c_ f_
        generalize W1.setCell _ _ = V1 at *
        have M := Lib.hid HRS.out.call
        have hw := wrap_i64 HRS.out.rd.lt64
        go_wp2_with fail
        refine M.out.mono ?_
        rintro en W2 ⟨rfl, hr⟩
        clear M HRS
        have c_ := hr.ev.c4
        have f_ := hr.ev.fz 4 (by decide)
        have HRS := Lib.hid (hr.set 4 _ (hr.ev.set4 (toI (numT r2).1)))
        clear hr
        obtain ⟨x2, hx2⟩ : ∃ x2, x2 = toI (numT r2).1 := ⟨_, rfl⟩
        obtain ⟨r3, hq2⟩ : ∃ r3, r3 = (numT r2).2 := ⟨_, rfl⟩
        rw [← hq2] at HRS
        rw [← hx2] at HRS hw
        have HX2 := Lib.hid hx2
        have HQ2 := Lib.hid hq2
        clear hx2 hq2
        go_upto_region 10 with fail
        clear hw c_ f_
        generalize W2.setCell _ _ = V2 at *
        have M := Lib.hid HRS.out.call
        have hw := wrap_i64 HRS.out.rd.lt64
        go_wp2_with fail
        refine M.out.mono ?_
        rintro en W3 ⟨rfl, hr⟩
        clear M HRS
        have c_ := hr.ev.c5
        have f_ := hr.ev.fz 5 (by decide)
        have HRS := Lib.hid (hr.set 5 _ (hr.ev.set5 (toI (numT r3).1)))
        clear hr
        obtain ⟨x3, hx3⟩ : ∃ x3, x3 = toI (numT r3).1 := ⟨_, rfl⟩
        obtain ⟨r4, hq3⟩ : ∃ r4, r4 = (numT r3).2 := ⟨_, rfl⟩
        rw [← hq3] at HRS
        rw [← hx3] at HRS hw
        have HX3 := Lib.hid hx3
        have HQ3 := Lib.hid hq3
        clear hx3 hq3
        go_upto_region 11 with fail
        clear hw c_ f_
        generalize W3.setCell _ _ = V3 at *
        have M := Lib.hid HRS.out.call
        have hw := @wrap_u32 (numT r4).1
        go_wp2_with fail
        refine M.out.mono ?_
        rintro en W4 ⟨rfl, hr⟩
        clear M HRS
        have c_ := hr.ev.c6
        have f_ := hr.ev.fz 6 (by decide)
        have HRS := Lib.hid (hr.set 6 _ (hr.ev.set6 ((((numT r4).1 % 4294967296 : Nat) : Int))))
        clear hr
        go_wp2_with fail
        refine HMM.out _ _ ?_
        go_meet
        refine ⟨rfl, Lib.hid ?_⟩
        go_light
        have hE : readE (1 :: r) = ⟨1, toI v0, x0, x1, x2, x3, (((numT r4).1 % 4294967296 : Nat) : Int), []⟩ := by (unfold readE; simp [HV.out, HR0.out, HX0.out, HX1.out, HX2.out, HX3.out, HQ0.out, HQ1.out, HQ2.out, HQ3.out])
        rw [hE]
        exact HRS.out.re
      · have n1 : ((c : Int) == 1) = false := by simp; omega
        by_cases h2 : c = 2
        · subst h2
          have M := Lib.hid HRS.out.call
          have hw := wrap_i64 HRS.out.rd.lt64
          go_wp2_with fail
          refine M.out.mono ?_
          rintro en W0 ⟨rfl, hr⟩
          clear M HRS
          have c_ := hr.ev.c2
          have f_ := hr.ev.fz 2 (by decide)
          have HRS := Lib.hid (hr.set 2 _ (hr.ev.set2 (toI (numT r0).1)))
          clear hr
          go_wp2_with fail
          refine HMM.out _ _ ?_
          go_meet
          refine ⟨rfl, Lib.hid ?_⟩
          go_light
          have hE : readE (2 :: r) = ⟨2, toI v0, toI (numT r0).1, 0, 0, 0, 0, []⟩ := by (unfold readE; simp [HV.out, HR0.out])
          rw [hE]
          exact HRS.out.re
        · have n2 : ((c : Int) == 2) = false := by simp; omega
          by_cases h4 : c = 4
          · subst h4
            have M := Lib.hid (HRS.out.calltext HL.out)
            go_wp2_with fail
            refine M.out.mono ?_
            rintro en W0 ⟨rfl, hr⟩
            clear M HRS
            have c_ := hr.ev.c7
            have f_ := hr.ev.fz 7 (by decide)
            have HRE := Lib.hid (hr.set7 (textT r0))
            clear hr
            unfold str at HRE ⊢
            go_wp2_with fail
            refine HMM.out _ _ ?_
            go_meet
            refine ⟨rfl, Lib.hid ?_⟩
            go_light
            have hE : readE (4 :: r) = ⟨4, toI v0, 0, 0, 0, 0, 0, textT r0⟩ := by (unfold readE; simp [HV.out, HR0.out])
            rw [hE]
            exact HRE.out
          · have n4 : ((c : Int) == 4) = false := by simp; omega
            go_wp2_with fail
            refine HMM.out _ _ ?_
            go_meet
            refine ⟨rfl, Lib.hid ?_⟩
            go_light
            have hE : readE (c :: r) = ⟨(c : Int), toI v0, 0, 0, 0, 0, 0, []⟩ := by (unfold readE; simp [HV.out, h1, h2, h4])
            rw [hE]
            exact HRS.out.re
    case rest =>
      obtain ⟨rfl, HRE⟩ := hcut
      clear q0 HRS
      obtain ⟨E, hE⟩ : ∃ E, E = readE (c :: r) := ⟨_, rfl⟩
      rw [← hE] at HRE
      have HE := Lib.hid hE
      clear hE
      have q0 := HRE.out.ev.c0
      have q1 := HRE.out.ev.c1
      have q2 := HRE.out.ev.c2
      have q3 := HRE.out.ev.c3
      have q4 := HRE.out.ev.c4
      have q5 := HRE.out.ev.c5
      have q6 := HRE.out.ev.c6
      have q7 := HRE.out.ev.c7
      have z0 := HRE.out.z.c0
      have z1 := HRE.out.z.c1
      have z2 := HRE.out.z.c2
      have z3 := HRE.out.z.c3
      have z4 := HRE.out.z.c4
      have z5 := HRE.out.z.c5
      have z6 := HRE.out.z.c6
      have z7 := HRE.out.z.c7
      have k0 := HRE.out.z.fz 0 (by decide)
      have k1 := HRE.out.z.fz 1 (by decide)
      have k2 := HRE.out.z.fz 2 (by decide)
      have k3 := HRE.out.z.fz 3 (by decide)
      have k4 := HRE.out.z.fz 4 (by decide)
      have k5 := HRE.out.z.fz 5 (by decide)
      have k6 := HRE.out.z.fz 6 (by decide)
      have k7 := HRE.out.z.fz 7 (by decide)
      go_wp2
      refine bodyPost_ret (v := E.val) ?_ rfl ?_
      · simp [results, Tryd.results41, go_sem, Ent.val, str, z0, z1, z2, z3, z4, z5, z6, z7]
      · unfold ReadPost
        refine ⟨by rw [HE.out], ?_⟩
        exact below_set8 HRE.out.below (Nat.le_refl _) _ _ _ _ _ _ _ _

/-- read, of any bytes. -/
theorem read_ent {A : Option Addr} {n cap : Nat} {bs : List Nat} {w : World} (h : BRow w A n cap bs) (hl : n ≤ 140737488355328) : Calls Tryd.prog 41 #[.slice A n cap] w (ReadPost w bs) := by
  cases bs with
  | nil =>
    have hn : n = 0 := by rw [← h.len]; rfl
    subst hn
    exact read_none A cap w
  | cons c r => exact read_some h hl
end Go.Proofs.YtdpoahjgdndnhaaDoor
