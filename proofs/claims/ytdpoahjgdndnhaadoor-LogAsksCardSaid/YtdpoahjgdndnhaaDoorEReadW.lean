/-
  read: what bytes say, of any bytes; nothing that was there is written.
-/
import Derived.Test.YtdpoahjgdndnhaaDoorEGet
import Derived.Deep.DrawnRows
set_option maxRecDepth 100000
namespace Go.Proofs.YtdpoahjgdndnhaaDoor
open Go.RowKit
attribute [local go_sem ↓] Go.wp_at_zero Go.wp_at_succ
set_option linter.unusedVariables false

/-- A variable that holds an entry, and may be written. -/
structure EV (w : World) (g : Nat) (e : Ent) : Prop where
  c0 : w.cell? ⟨g, 0, none⟩ = some (.int .i64 e.kd)
  c1 : w.cell? ⟨g, 1, none⟩ = some (.int .i64 e.vw)
  c2 : w.cell? ⟨g, 2, none⟩ = some (.int .i64 e.id)
  c3 : w.cell? ⟨g, 3, none⟩ = some (.int .i64 e.tr)
  c4 : w.cell? ⟨g, 4, none⟩ = some (.int .i64 e.fr)
  c5 : w.cell? ⟨g, 5, none⟩ = some (.int .i64 e.tl)
  c6 : w.cell? ⟨g, 6, none⟩ = some (.int .u32 e.sm)
  c7 : w.cell? ⟨g, 7, none⟩ = some (.string ⟨e.tx.toArray⟩)
  fz : ∀ i, i < 8 → w.frozen? ⟨g, i, none⟩ = false
theorem EV.lt {w : World} {g : Nat} {e : Ent} (h : EV w g e) : g < w.heap.size := World.block_lt_of_cell? w _ h.c0
theorem EV.grown {w w' : World} {g : Nat} {e : Ent} {row : Option Nat} (h : EV w g e) (hg : w.grownBy w' row) (hf : ∀ ad, w'.frozen? ad = w.frozen? ad) (hne : some g ≠ row) : EV w' g e :=
  ⟨hg.cell h.c0 hne, hg.cell h.c1 hne, hg.cell h.c2 hne, hg.cell h.c3 hne, hg.cell h.c4 hne, hg.cell h.c5 hne, hg.cell h.c6 hne, hg.cell h.c7 hne, fun i hi => by rw [hf]; exact h.fz i hi⟩
theorem EV.below {w w' : World} {g : Nat} {e : Ent} (h : EV w g e) (hb : Below w.heap.size w w') : EV w' g e := by
  have hg := h.lt
  exact ⟨by rw [hb.cell hg]; exact h.c0, by rw [hb.cell hg]; exact h.c1, by rw [hb.cell hg]; exact h.c2, by rw [hb.cell hg]; exact h.c3, by rw [hb.cell hg]; exact h.c4, by rw [hb.cell hg]; exact h.c5, by rw [hb.cell hg]; exact h.c6, by rw [hb.cell hg]; exact h.c7, fun i hi => by rw [hb.frozen hg]; exact h.fz i hi⟩
theorem EV.far {w : World} {g : Nat} {e : Ent} (h : EV w g e) {a : Addr} (ha : a.block ≠ g) (v : Value) : EV (w.setCell a v) g e := by
  have f : ∀ i, (w.setCell a v).cell? ⟨g, i, none⟩ = w.cell? ⟨g, i, none⟩ := fun i => World.cell?_setCell_far w a ⟨g, i, none⟩ v ha
  exact ⟨by rw [f]; exact h.c0, by rw [f]; exact h.c1, by rw [f]; exact h.c2, by rw [f]; exact h.c3, by rw [f]; exact h.c4, by rw [f]; exact h.c5, by rw [f]; exact h.c6, by rw [f]; exact h.c7, fun i hi => by rw [World.frozen?_setCell]; exact h.fz i hi⟩
theorem EV.new (w : World) (e : Ent) : EV (w.alloc (.cells #[.int .i64 e.kd, .int .i64 e.vw, .int .i64 e.id, .int .i64 e.tr, .int .i64 e.fr, .int .i64 e.tl, .int .u32 e.sm, .string ⟨e.tx.toArray⟩] 25)) w.heap.size e :=
  ⟨by simp, by simp, by simp, by simp, by simp, by simp, by simp, by simp, fun i hi => by simp⟩
theorem RdAt.far {w : World} {g B : Nat} {bs : List Nat} (h : RdAt w g B bs) {a : Addr} (h1 : a.block ≠ g) (h2 : B ≤ a.block) (v : Value) : RdAt (w.setCell a v) g B bs := by
  obtain ⟨A, n, cap, hc, hr, hn⟩ := h.c
  exact ⟨⟨A, n, cap, by rw [World.cell?_setCell_far w a ⟨g, 0, none⟩ v h1]; exact hc, hr.set (fun ad e => Nat.ne_of_lt (Nat.lt_of_lt_of_le (hn ad e) h2)) v, hn⟩, h.lo, by rw [World.frozen?_setCell]; exact h.f⟩

/-- Amid read. -/
structure RS (w W : World) (gR gE : Nat) (bs : List Nat) (e : Ent) : Prop where
  rd : RdAt W gR w.heap.size bs
  ev : EV W gE e
  z : EV W w.heap.size Ent.zero
  below : Below w.heap.size w W
  n1 : gR ≠ gE
  n2 : w.heap.size < gR
  n3 : w.heap.size < gE
theorem RS.num {w W W' : World} {gR gE : Nat} {bs : List Nat} {e : Ent} {en : Ending} (h : RS w W gR gE bs e) (hp : NumPost2 W gR w.heap.size bs en W') : en = .returned (.int .u64 ((numT bs).1 : Int)) ∧ RS w W' gR gE (numT bs).2 e := by
  obtain ⟨he, hr, hg, hf⟩ := hp
  refine ⟨he, hr, h.ev.grown hg hf (fun e => h.n1 (Option.some.inj e).symm), h.z.grown hg hf (fun e => by have := Option.some.inj e; have := h.n2; omega), h.below.grown hg h.below.size (fun k e => by cases e; exact Nat.le_of_lt h.n2), h.n1, h.n2, h.n3⟩
theorem RS.set {w W : World} {gR gE : Nat} {bs : List Nat} {e e' : Ent} (h : RS w W gR gE bs e) (k : Nat) (v : Value) (he : EV (W.setCell ⟨gE, k, none⟩ v) gE e') : RS w (W.setCell ⟨gE, k, none⟩ v) gR gE bs e' :=
  ⟨h.rd.far (fun e => h.n1 e.symm) (Nat.le_of_lt h.n3) v, he, h.z.far (fun e => by have := h.n3; simp only at e; omega) v, h.below.setCell (Nat.le_of_lt h.n3) v, h.n1, h.n2, h.n3⟩
theorem EV.set2 {w : World} {g : Nat} {e : Ent} (h : EV w g e) (v : Int) : EV (w.setCell ⟨g, 2, none⟩ (.int .i64 v)) g { e with id := v } := by
  have hf := h.fz
  obtain ⟨c0, c1, c2, c3, c4, c5, c6, c7, _⟩ := h
  exact ⟨by simp [go_sem, *], by simp [go_sem, *], by simp [go_sem, *], by simp [go_sem, *], by simp [go_sem, *], by simp [go_sem, *], by simp [go_sem, *], by simp [go_sem, *], fun i hi => by simpa using hf i hi⟩
theorem EV.set3 {w : World} {g : Nat} {e : Ent} (h : EV w g e) (v : Int) : EV (w.setCell ⟨g, 3, none⟩ (.int .i64 v)) g { e with tr := v } := by
  have hf := h.fz
  obtain ⟨c0, c1, c2, c3, c4, c5, c6, c7, _⟩ := h
  exact ⟨by simp [go_sem, *], by simp [go_sem, *], by simp [go_sem, *], by simp [go_sem, *], by simp [go_sem, *], by simp [go_sem, *], by simp [go_sem, *], by simp [go_sem, *], fun i hi => by simpa using hf i hi⟩
theorem EV.set4 {w : World} {g : Nat} {e : Ent} (h : EV w g e) (v : Int) : EV (w.setCell ⟨g, 4, none⟩ (.int .i64 v)) g { e with fr := v } := by
  have hf := h.fz
  obtain ⟨c0, c1, c2, c3, c4, c5, c6, c7, _⟩ := h
  exact ⟨by simp [go_sem, *], by simp [go_sem, *], by simp [go_sem, *], by simp [go_sem, *], by simp [go_sem, *], by simp [go_sem, *], by simp [go_sem, *], by simp [go_sem, *], fun i hi => by simpa using hf i hi⟩
theorem EV.set5 {w : World} {g : Nat} {e : Ent} (h : EV w g e) (v : Int) : EV (w.setCell ⟨g, 5, none⟩ (.int .i64 v)) g { e with tl := v } := by
  have hf := h.fz
  obtain ⟨c0, c1, c2, c3, c4, c5, c6, c7, _⟩ := h
  exact ⟨by simp [go_sem, *], by simp [go_sem, *], by simp [go_sem, *], by simp [go_sem, *], by simp [go_sem, *], by simp [go_sem, *], by simp [go_sem, *], by simp [go_sem, *], fun i hi => by simpa using hf i hi⟩
theorem EV.set6 {w : World} {g : Nat} {e : Ent} (h : EV w g e) (v : Int) : EV (w.setCell ⟨g, 6, none⟩ (.int .u32 v)) g { e with sm := v } := by
  have hf := h.fz
  obtain ⟨c0, c1, c2, c3, c4, c5, c6, c7, _⟩ := h
  exact ⟨by simp [go_sem, *], by simp [go_sem, *], by simp [go_sem, *], by simp [go_sem, *], by simp [go_sem, *], by simp [go_sem, *], by simp [go_sem, *], by simp [go_sem, *], fun i hi => by simpa using hf i hi⟩
theorem EV.set7 {w : World} {g : Nat} {e : Ent} (h : EV w g e) (v : List UInt8) : EV (w.setCell ⟨g, 7, none⟩ (str v)) g { e with tx := v } := by
  unfold str
  have hf := h.fz
  obtain ⟨c0, c1, c2, c3, c4, c5, c6, c7, _⟩ := h
  exact ⟨by simp [go_sem, *], by simp [go_sem, *], by simp [go_sem, *], by simp [go_sem, *], by simp [go_sem, *], by simp [go_sem, *], by simp [go_sem, *], by simp [go_sem, *], fun i hi => by simpa using hf i hi⟩
theorem wrap_i64 {n : Nat} (h : n < 18446744073709551616) : IntKind.i64.wrap (n : Int) = toI n := by
  unfold toI
  simp [IntKind.wrap, IntKind.bits, IntKind.signed]
  split <;> omega
theorem wrap_u32 {n : Nat} : IntKind.u32.wrap (n : Int) = ((n % 4294967296 : Nat) : Int) := by
  simp [IntKind.wrap, IntKind.bits, IntKind.signed]
theorem below_set8 {w W : World} {g : Nat} (h : Below w.heap.size w W) (hg : w.heap.size ≤ g) (v0 v1 v2 v3 v4 v5 v6 v7 : Value) :
    Below w.heap.size w ((((((((W.setCell ⟨g, 0, none⟩ v0).setCell ⟨g, 1, none⟩ v1).setCell ⟨g, 2, none⟩ v2).setCell ⟨g, 3, none⟩ v3).setCell ⟨g, 4, none⟩ v4).setCell ⟨g, 5, none⟩ v5).setCell ⟨g, 6, none⟩ v6).setCell ⟨g, 7, none⟩ v7) :=
  (((((((h.setCell hg _).setCell hg _).setCell hg _).setCell hg _).setCell hg _).setCell hg _).setCell hg _).setCell hg _
end Go.Proofs.YtdpoahjgdndnhaaDoor
