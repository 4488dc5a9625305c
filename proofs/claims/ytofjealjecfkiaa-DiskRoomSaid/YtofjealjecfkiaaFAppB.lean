/-
  What an append to a file's bytes leaves of a disk; disk's Append to a file that is there: the disk that it leaves.
-/
import Derived.Test.YtofjealjecfkiaaFApp
set_option maxRecDepth 100000
namespace Go.Proofs.Ytofjealjecfkiaa
open Go.RowKit
attribute [local go_sem ↓] Go.wp_at_zero Go.wp_at_succ
set_option linter.unusedVariables false
variable {w : World} {base p room rc : Nat} {R : Option Addr} {fs : List Fl}

theorem step_append_run {P : Program} {ops : Array Oper} {o : Oper} {a : Act} {w : World} {K : Act → World → Prop} {Q : Exit → Act → World → Prop} {E : Prop}
    (hg : o.guard = none) (s x : Operand) (t t2 : TypeId) (hop : o.op = Op.call { callee := Callee.builtin Builtin.append, args := #[s, x], argTypes := #[t, t2] })
    (v u : Value) (hs : a.eval s = v) (hx : a.eval x = u) {v' : Value} {w' : World} (hr : ∀ ty, (Builtin.append_ #[t, t2] ty #[v, u]).run P w = .ok v' w') (hK : K (a.put o.dst v') w') :
    if Region.wanted o (yielded ops a.tmps) = true then Oper.wp P o a w K Q else E := by
  have hw : Region.wanted o (yielded ops a.tmps) = true := by simp [Region.wanted, hg]
  rw [if_pos hw]
  have hr' := hr o.type
  unfold Oper.wp
  simp [execOp, hop, resolve, invoke, builtin, hs, hx, hr', Result.andThen]
  exact hK

theorem set_at {fs : List Fl} {k : Nat} {f' g : Fl} (h : g ∈ fs.set k f') : g = f' ∨ ∃ i, i ≠ k ∧ fs[i]? = some g := by
  obtain ⟨i, hi, e⟩ := List.mem_iff_getElem.1 h
  rw [List.length_set] at hi
  rw [List.getElem_set] at e
  split at e
  · exact .inl e.symm
  · next q => exact .inr ⟨i, fun e2 => q e2.symm, by rw [List.getElem?_eq_getElem hi, e]⟩
theorem DiskAt.repl (h : DiskAt w base p room R rc fs) {w' : World} {S : Nat → Prop} {k : Nat} {f f' : Fl} (hf : fs[k]? = some f) (hk : Kept w w' S) (hS : ∀ q, S q → rowOf R q ∨ f.blk = some q)
    (hrow : w'.ownsRow base 49 3 (.slice R fs.length rc) fs.length (filesV (fs.set k f'))) (hblk : f'.blk = f.blk ∨ f'.blk = some w.heap.size ∨ f'.blk = none) (hown : w'.ownsRow base 5 1 f'.row f'.b.length (bytesV f'.b)) (hok : DOk room (fs.set k f')) :
    DiskAt w' base p room R rc (fs.set k f') ∧ ∀ q, foot p R (fs.set k f') q → foot p R fs q ∨ w.heap.size ≤ q := by
  have hmem := List.mem_of_getElem? hf
  refine ⟨⟨h.lo, ?_, by rw [List.length_set]; exact hrow, fun g hg => ?_, ?_, hok⟩, fun q hq => ?_⟩
  · rw [hk.block p (h.lt (.inl rfl)).2 (fun e => ?_), List.length_set]
    · exact h.hd
    · rcases hS p e with e | e
      · exact h.ne_p e rfl
      · exact (h.ne_f hmem e).1 rfl
  · rcases set_at hg with rfl | ⟨i, hi, hg⟩
    · exact hown
    · refine hk.own (h.own g (List.mem_of_getElem? hg)) (fun q e e2 => ?_)
      rw [Fl.row_own] at e
      rcases hS q e2 with e2 | e2
      · exact (h.ne_f (List.mem_of_getElem? hg) e).2 q e2 rfl
      · exact apart_at h.ap hg hf hi q e e2
  · refine apart_set h.ap (fun i g hi hg => ?_)
    have a1 := apart_at h.ap hg hf hi
    have a2 := apart_at h.ap hf hg (Ne.symm hi)
    have hlt : ∀ q, g.blk = some q → q < w.heap.size := fun q e => (h.lt (.inr (.inr ⟨g, List.mem_of_getElem? hg, e⟩))).2
    unfold Fl.apart at a1 a2 ⊢
    rcases hblk with e | e | e
    · rw [e]; exact ⟨a1, a2⟩
    · rw [e]
      refine ⟨fun q hq e2 => ?_, fun q hq e2 => ?_⟩
      · injection e2 with e2
        have := hlt q hq
        omega
      · injection hq with hq
        have := hlt q e2
        omega
    · rw [e]
      exact ⟨fun q _ e2 => (by cases e2), fun q e2 => (by cases e2)⟩
  · rcases hq with q1 | q1 | ⟨g, hg, q1⟩
    · exact .inl (.inl q1)
    · exact .inl (.inr (.inl q1))
    · rcases mem_set_or hg with hg | rfl
      · exact .inl (.inr (.inr ⟨g, hg, q1⟩))
      · rcases hblk with e | e | e
        · exact .inl (.inr (.inr ⟨f, hmem, by rw [← e]; exact q1⟩))
        · rw [e] at q1
          injection q1 with q1
          exact .inr (by omega)
        · rw [e] at q1
          cases q1
theorem usedOf_set : ∀ {fs : List Fl} {k : Nat} {f : Fl} (f' : Fl), fs[k]? = some f → usedOf (fs.set k f') + f.b.length = usedOf fs + f'.b.length
  | [], k, f, f', h => by simp at h
  | g :: r, 0, f, f', h => by
    simp at h
    subst h
    simp only [List.set_cons_zero, usedOf_cons]
    omega
  | g :: r, k + 1, f, f', h => by
    have := usedOf_set (fs := r) (k := k) f' (by simpa using h)
    simp only [List.set_cons_succ, usedOf_cons]
    omega
theorem DOk.put {room : Nat} {fs : List Fl} (h : DOk room fs) {k : Nat} {f f' : Fl} (hf : fs[k]? = some f) (hu : usedOf fs + f'.b.length ≤ room + f.b.length) (h2 : ∀ c ∈ f'.b, c < 256) (h3 : f'.sure ≤ f'.b.length) (h4 : f'.nm = f.nm) : DOk room (fs.set k f') := by
  have e := usedOf_set f' hf
  refine ⟨h.big, by rw [List.length_set]; exact h.few, by show usedOf (fs.set k f') ≤ room; omega, fun g hg => ?_, fun g hg => ?_, fun g hg => ?_⟩
  · rcases mem_set_or hg with hg | rfl
    · exact h.byte g hg
    · exact h2
  · rcases mem_set_or hg with hg | rfl
    · exact h.sure g hg
    · exact h3
  · rcases mem_set_or hg with hg | rfl
    · exact h.nm g hg
    · rw [h4]; exact h.nm f (List.mem_of_getElem? hf)

/-- The file with more bytes behind, wherever they lie now. -/
def Fl.more (f : Fl) (A : Option Addr) (cap : Nat) (bs : List Nat) : Fl := ⟨f.nm, A, cap, f.b ++ bs, f.sure⟩
/-- What an append to a file's bytes and the store behind it leave. -/
theorem appended {g : Nat} (h : DiskAt w base p room (some ⟨g, 0, none⟩) rc fs) {k m : Nat} {f : Fl} {bs : List Nat} (hf : fs[k]? = some f) (hbs : ∀ c ∈ bs, c < 256) (hm : bs.length = m) (hu : usedOf fs + m ≤ room) {v' : Value} {w' : World}
    (hown : w'.ownsRow base 5 1 v' (f.b.length + m) (bytesV (f.b ++ bs))) (hgrow : w.grownBy w' f.row.ownBlock) (hat : v'.ownBlock = f.row.ownBlock ∨ v'.ownBlock = some w.heap.size) :
    ∃ A' c', v' = .slice A' (f.b.length + m) c' ∧ Moved w (w'.setCell ⟨g, k * 3 + 1, none⟩ v') base p room (some ⟨g, 0, none⟩) fs (some ⟨g, 0, none⟩) rc (fs.set k (f.more A' c' bs)) := by
  have hmem := List.mem_of_getElem? hf
  have hform : ∃ A' c', v' = .slice A' (f.b.length + m) c' := by
    rcases hown.2 with ⟨e, e0⟩ | ⟨q, c, cur, e, _⟩
    · exact ⟨none, 0, by rw [e, e0]⟩
    · exact ⟨_, _, e⟩
  obtain ⟨A', c', rfl⟩ := hform
  refine ⟨A', c', rfl, ?_⟩
  have hlen : (f.more A' c' bs).b.length = f.b.length + m := by show (f.b ++ bs).length = _; rw [List.length_append, hm]
  have hrw : (f.more A' c' bs).row = .slice A' (f.b.length + m) c' := by unfold Fl.row; rw [hlen]; rfl
  have hblk : (f.more A' c' bs).blk = (Value.slice A' (f.b.length + m) c').ownBlock := by rw [← hrw, Fl.row_own]
  have hk1 : Kept w w' (fun q => f.blk = some q) := Kept.of_grown hgrow (fun q e => by rw [← Fl.row_own]; exact e)
  have hrow1 := hk1.own h.row (fun q e e2 => (h.ne_f hmem e2).2 q (by rw [row_ownBlock] at e; exact e) rfl)
  have hst := (hrow1.stored (k * 3 + 1) (.slice A' (f.b.length + m) c'))
  have hk2 : Kept w' (w'.setCell ⟨g, k * 3 + 1, none⟩ (.slice A' (f.b.length + m) c')) (rowOf (some ⟨g, 0, none⟩)) := kept_setCell _ ⟨g, k * 3 + 1, none⟩ _ rfl
  have hk3 : Kept w (w'.setCell ⟨g, k * 3 + 1, none⟩ (.slice A' (f.b.length + m) c')) (fun q => rowOf (some ⟨g, 0, none⟩) q ∨ f.blk = some q) :=
    (hk1.mono (fun q e => .inr e)).trans hk2 (fun q e => .inl (.inl e))
  have hone : w'.heap[g]? = w.heap[g]? := hk1.block g (h.lt (.inr (.inl rfl))).2 (fun e => (h.ne_f hmem e).2 g rfl rfl)
  have hgv : (Value.slice A' (f.b.length + m) c').ownBlock ≠ some g := by
    intro e
    rcases hat with e2 | e2
    · rw [e2, Fl.row_own] at e
      exact (h.ne_f hmem e).2 g rfl rfl
    · rw [e2] at e
      injection e with e
      have := (h.lt (k := g) (.inr (.inl rfl))).2
      omega
  have t1 : (w'.setCell ⟨g, k * 3 + 1, none⟩ (.slice A' (f.b.length + m) c')).ownsRow base 49 3 (.slice (some ⟨g, 0, none⟩) fs.length rc) fs.length (filesV (fs.set k (f.more A' c' bs))) := by
    rw [filesV_set fs k f (f.more A' c' bs) hf rfl, hrw]
    have e9 : ((filesV fs).set (k * 3 + 1) (.slice A' (f.b.length + m) c'))[k * 3 + 2]? = some (.int .i64 ((f.more A' c' bs).sure : Int)) := by
      rw [List.getElem?_set_ne (by omega)]
      exact (filesV_get fs k f hf).2.2
    rw [set_same e9]
    exact hst.1
  have t2 : (f.more A' c' bs).blk = f.blk ∨ (f.more A' c' bs).blk = some w.heap.size ∨ (f.more A' c' bs).blk = none := by
    rw [hblk]
    rcases hat with e | e
    · left; rw [e, Fl.row_own]
    · right; left; exact e
  have t3 : (w'.setCell ⟨g, k * 3 + 1, none⟩ (.slice A' (f.b.length + m) c')).ownsRow base 5 1 (f.more A' c' bs).row (f.more A' c' bs).b.length (bytesV (f.more A' c' bs).b) := by
    rw [hrw, hlen]
    refine hk2.own hown (fun q e e2 => hgv ?_)
    rw [e]
    exact e2.symm
  have t4 : DOk room (fs.set k (f.more A' c' bs)) := by
    refine h.ok.put hf (by rw [hlen]; omega) (fun c hc => ?_) ?_ rfl
    · rcases List.mem_append.1 hc with hc | hc
      · exact h.ok.byte f hmem c hc
      · exact hbs c hc
    · rw [hlen]
      have := h.ok.sure f hmem
      show f.sure ≤ _
      omega
  obtain ⟨d1, d2⟩ := h.repl (f' := f.more A' c' bs) hf hk3 (fun q e => e) t1 t2 t3 t4
  exact ⟨d1, hk3.mono (fun q e => by
    rcases e with e | e
    · exact .inr (.inl e)
    · exact .inr (.inr ⟨f, hmem, e⟩)), d2⟩
end Go.Proofs.Ytofjealjecfkiaa
