/-
  take: an entry that may come next is taken into the manifest.
-/
import Derived.Test.YtdpoahjgdndnhaaDoorEMan
set_option maxRecDepth 100000
namespace Go.Proofs.YtdpoahjgdndnhaaDoor
open Go.RowKit Go.Maps
set_option linter.unusedVariables false

theorem keyLit (i : Int) : WideAt.IsKeyLit (.int .i64 i) := trivial
theorem lit_ne {i j : Int} (h : i ≠ j) : (Lit.int .i64 i) ≠ .int .i64 j := fun e => h (by simpa using e)

theorem there_put {D : DataW Unit} {l : List Inf} (hm : IsMap D) (hh : ∀ i, has D (.int .i64 i) = true ↔ i ∈ l.map Inf.id) (hv : ∀ y ∈ l, ∀ zd, D.atKey (.int .i64 y.id) zd = y.dat) (x : Inf) (hx : ∀ y ∈ l, y.id ≠ x.id) :
    (∀ i, has (D.put (.int .i64 x.id) x.dat) (.int .i64 i) = true ↔ i ∈ (insI x l).map Inf.id) ∧ ∀ y ∈ insI x l, ∀ zd, (D.put (.int .i64 x.id) x.dat).atKey (.int .i64 y.id) zd = y.dat := by
  constructor
  · intro i
    rw [List.mem_map]
    by_cases hi : i = x.id
    · subst hi
      rw [has_put_same hm (keyLit _)]
      exact ⟨fun _ => ⟨x, mem_insI.2 (.inl rfl), rfl⟩, fun _ => rfl⟩
    · rw [has_put_other (lit_ne hi), hh, List.mem_map]
      constructor
      · rintro ⟨y, hy, e⟩; exact ⟨y, mem_insI.2 (.inr hy), e⟩
      · rintro ⟨y, hy, e⟩
        rcases mem_insI.1 hy with rfl | hy
        · exact absurd e.symm hi
        · exact ⟨y, hy, e⟩
  · intro y hy zd
    rcases mem_insI.1 hy with rfl | hy
    · exact atKey_put_same hm (keyLit _) _ _
    · rw [atKey_put_other (lit_ne (hx y hy))]
      exact hv y hy zd
theorem there_del {D : DataW Unit} {l : List Inf} (hh : ∀ i, has D (.int .i64 i) = true ↔ i ∈ l.map Inf.id) (hv : ∀ y ∈ l, ∀ zd, D.atKey (.int .i64 y.id) zd = y.dat) (k : Int) :
    (∀ i, has (D.del (.int .i64 k)) (.int .i64 i) = true ↔ i ∈ (l.filter (fun x => x.id ≠ k)).map Inf.id) ∧ ∀ y ∈ l.filter (fun x => x.id ≠ k), ∀ zd, (D.del (.int .i64 k)).atKey (.int .i64 y.id) zd = y.dat := by
  constructor
  · intro i
    rw [List.mem_map]
    by_cases hi : i = k
    · subst hi
      rw [has_del_same]
      constructor
      · intro h; cases h
      · rintro ⟨y, hy, e⟩
        have := (List.mem_filter.1 hy).2
        simp [e] at this
    · rw [has_del_other (lit_ne hi), hh, List.mem_map]
      constructor
      · rintro ⟨y, hy, e⟩; exact ⟨y, List.mem_filter.2 ⟨hy, by simp [e, hi]⟩, e⟩
      · rintro ⟨y, hy, e⟩; exact ⟨y, (List.mem_filter.1 hy).1, e⟩
  · intro y hy zd
    have h := List.mem_filter.1 hy
    rw [atKey_del_other (lit_ne (by simpa using h.2))]
    exact hv y h.1 zd

/-- The cells of a manifest's block. -/
structure MCells (w : World) (g bT bG : Nat) (ru : Pol) (vw la : Int) : Prop where
  c0 : w.cell? ⟨g, 0, none⟩ = some (.map (some bT))
  c1 : w.cell? ⟨g, 1, none⟩ = some (.map (some bG))
  c2 : w.cell? ⟨g, 2, none⟩ = some (.int .i64 ru.a0)
  c3 : w.cell? ⟨g, 3, none⟩ = some (.int .i64 ru.a1)
  c4 : w.cell? ⟨g, 4, none⟩ = some (.int .i64 ru.a2)
  c5 : w.cell? ⟨g, 5, none⟩ = some (.int .i64 ru.a3)
  c6 : w.cell? ⟨g, 6, none⟩ = some (.int .i64 ru.cn)
  c7 : w.cell? ⟨g, 7, none⟩ = some (.int .i64 ru.sp)
  c8 : w.cell? ⟨g, 8, none⟩ = some (.int .i64 vw)
  c9 : w.cell? ⟨g, 9, none⟩ = some (.int .i64 la)
  fz : ∀ i, i < 10 → w.frozen? ⟨g, i, none⟩ = false
theorem MAt.cells {w : World} {g bT bG : Nat} {m : Man} {n : Nat} (h : MAt w g bT bG m n) : MCells w g bT bG m.ru m.vw m.la :=
  ⟨h.c0, h.c1, h.c2, h.c3, h.c4, h.c5, h.c6, h.c7, h.c8, h.c9, h.fz⟩
theorem MCells.at_ {w : World} {g bT bG : Nat} {m : Man} {n : Nat} (c : MCells w g bT bG m.ru m.vw m.la) (hT : ThereIs w bT m.th n) (hG : GoneIs w bG (fun i => i ∈ m.ev ∧ ¬ m.has i) n) (h1 : bT ≠ bG) (h2 : g ≠ bT) (h3 : g ≠ bG) : MAt w g bT bG m n :=
  ⟨c.c0, c.c1, c.c2, c.c3, c.c4, c.c5, c.c6, c.c7, c.c8, c.c9, c.fz, hT, hG, h1, h2, h3⟩
theorem MCells.la {w : World} {g bT bG : Nat} {ru : Pol} {vw la : Int} (h : MCells w g bT bG ru vw la) (v : Int) : MCells (w.setCell ⟨g, 9, none⟩ (.int .i64 v)) g bT bG ru vw v := by
  have hf := h.fz
  obtain ⟨c0, c1, c2, c3, c4, c5, c6, c7, c8, c9, _⟩ := h
  exact ⟨by simp [go_sem, *], by simp [go_sem, *], by simp [go_sem, *], by simp [go_sem, *], by simp [go_sem, *], by simp [go_sem, *], by simp [go_sem, *], by simp [go_sem, *], by simp [go_sem, *], by simp [go_sem, *], fun i hi => by simpa using hf i hi⟩
theorem MCells.vw {w : World} {g bT bG : Nat} {ru : Pol} {vw la : Int} (h : MCells w g bT bG ru vw la) (v : Int) : MCells (w.setCell ⟨g, 8, none⟩ (.int .i64 v)) g bT bG ru v la := by
  have hf := h.fz
  obtain ⟨c0, c1, c2, c3, c4, c5, c6, c7, c8, c9, _⟩ := h
  exact ⟨by simp [go_sem, *], by simp [go_sem, *], by simp [go_sem, *], by simp [go_sem, *], by simp [go_sem, *], by simp [go_sem, *], by simp [go_sem, *], by simp [go_sem, *], by simp [go_sem, *], by simp [go_sem, *], fun i hi => by simpa using hf i hi⟩
theorem MCells.ru {w : World} {g bT bG : Nat} {ru : Pol} {vw la : Int} (h : MCells w g bT bG ru vw la) (p : Pol) :
    MCells ((((((w.setCell ⟨g, 2, none⟩ (.int .i64 p.a0)).setCell ⟨g, 3, none⟩ (.int .i64 p.a1)).setCell ⟨g, 4, none⟩ (.int .i64 p.a2)).setCell ⟨g, 5, none⟩ (.int .i64 p.a3)).setCell ⟨g, 6, none⟩ (.int .i64 p.cn)).setCell ⟨g, 7, none⟩ (.int .i64 p.sp)) g bT bG p vw la := by
  have hf := h.fz
  obtain ⟨c0, c1, c2, c3, c4, c5, c6, c7, c8, c9, _⟩ := h
  exact ⟨by simp [go_sem, *], by simp [go_sem, *], by simp [go_sem, *], by simp [go_sem, *], by simp [go_sem, *], by simp [go_sem, *], by simp [go_sem, *], by simp [go_sem, *], by simp [go_sem, *], by simp [go_sem, *], fun i hi => by simpa using hf i hi⟩
theorem MCells.turned {w w' : World} {g bT bG b : Nat} {ru : Pol} {vw la : Int} (h : MCells w g bT bG ru vw la) (ht : w.mapTurned w' b) (hne : g ≠ b) : MCells w' g bT bG ru vw la := by
  have hg := ht.grown
  have hne' : some g ≠ some b := fun e => hne (Option.some.inj e)
  exact ⟨hg.cell h.c0 hne', hg.cell h.c1 hne', hg.cell h.c2 hne', hg.cell h.c3 hne', hg.cell h.c4 hne', hg.cell h.c5 hne', hg.cell h.c6 hne', hg.cell h.c7 hne', hg.cell h.c8 hne', hg.cell h.c9 hne', fun i hi => by rw [ht.frozen]; exact h.fz i hi⟩
theorem MCells.below {w w' : World} {g bT bG : Nat} {ru : Pol} {vw la : Int} (h : MCells w g bT bG ru vw la) (hb : Below w.heap.size w w') : MCells w' g bT bG ru vw la := by
  have hg := World.block_lt_of_cell? w _ h.c0
  simp only at hg
  exact ⟨by rw [hb.cell hg]; exact h.c0, by rw [hb.cell hg]; exact h.c1, by rw [hb.cell hg]; exact h.c2, by rw [hb.cell hg]; exact h.c3, by rw [hb.cell hg]; exact h.c4, by rw [hb.cell hg]; exact h.c5, by rw [hb.cell hg]; exact h.c6, by rw [hb.cell hg]; exact h.c7, by rw [hb.cell hg]; exact h.c8, by rw [hb.cell hg]; exact h.c9,
    fun i hi => by rw [hb.frozen hg]; exact h.fz i hi⟩
theorem ThereIs.set {w : World} {b : Nat} {l : List Inf} {n : Nat} (h : ThereIs w b l n) {a : Addr} (ha : b ≠ a.block) (u : Value) : ThereIs (w.setCell a u) b l n := by
  obtain ⟨D, h1, h2, h3⟩ := h
  exact ⟨D, h1.setCell ha u, h2, h3⟩
theorem GoneIs.set {w : World} {b : Nat} {P : Int → Prop} {n : Nat} (h : GoneIs w b P n) {a : Addr} (ha : b ≠ a.block) (u : Value) : GoneIs (w.setCell a u) b P n := by
  obtain ⟨D, h1, h2⟩ := h
  exact ⟨D, h1.setCell ha u, h2⟩
theorem ThereIs.mono {w : World} {b : Nat} {l : List Inf} {n n' : Nat} (h : ThereIs w b l n) (hn : n ≤ n') : ThereIs w b l n' := by
  obtain ⟨D, h1, h2, h3⟩ := h
  exact ⟨D, h1.mono hn, h2, h3⟩
theorem GoneIs.mono {w : World} {b : Nat} {P P' : Int → Prop} {n n' : Nat} (h : GoneIs w b P n) (hn : n ≤ n') (hp : ∀ i, P i ↔ P' i) : GoneIs w b P' n' := by
  obtain ⟨D, h1, h2⟩ := h
  exact ⟨D, h1.mono hn, fun i => (h2 i).trans (hp i)⟩
theorem GoneIs.kept {w w' : World} {b : Nat} {P : Int → Prop} {n : Nat} {row : Option Nat} (h : GoneIs w b P n) (hg : w.grownBy w' row) (hne : some b ≠ row) : GoneIs w' b P n := by
  obtain ⟨D, h1, h2⟩ := h
  exact ⟨D, h1.kept hg hne, h2⟩

/-- delete, as one step of a region that draws. -/
theorem step_delete {u : World} {ops : Array Oper} {o : Oper} {a : Act} {K : Act → World → Prop} {Q : Exit → Act → World → Prop} {E : Prop} (hgd : o.guard = none) (x y : Operand)
    (ho : o.op = .call { callee := .builtin .delete, args := #[x, y], argTypes := #[76, 3] }) (b n : Nat) (i : Int) (D : DataW Unit) (hx : a.eval x = .map (some b)) (hy : a.eval y = .int .i64 i) (hi : In64 i) (hown : u.ownsMap Tryd.prog 3 infR b n D)
    (h : ∀ u', u'.ownsMap Tryd.prog 3 infR b n (D.del (.int .i64 i)) → u.mapTurned u' b → K (a.put o.dst (.tuple #[])) u') : if Region.wanted o (yielded ops a.tmps) = true then Oper.wp Tryd.prog o a u K Q else E := by
  have hw : Region.wanted o (yielded ops a.tmps) = true := by simp [Region.wanted, hgd]
  rw [if_pos hw]
  obtain ⟨w', hrun, r1, r2⟩ := hown.drop keys3 Tryd.underlying76 (keyOf_int_mk Tryd.underlying3 (fits64 hi)) o.type
  unfold Oper.wp
  simp [execOp, ho, resolve, invoke, builtin, hx, hy, hrun, Result.andThen]
  exact h w' r1 r2
end Go.Proofs.YtdpoahjgdndnhaaDoor
