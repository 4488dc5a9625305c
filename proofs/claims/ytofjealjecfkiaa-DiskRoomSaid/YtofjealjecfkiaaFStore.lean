/-
  What a store into a file's cells leaves of a disk; disk's Sync and Cut: what each leaves.
-/
import Derived.Test.YtofjealjecfkiaaFRead
set_option maxRecDepth 100000
namespace Go.Proofs.Ytofjealjecfkiaa
open Go.RowKit
attribute [local go_sem ↓] Go.wp_at_zero Go.wp_at_succ
set_option linter.unusedVariables false
variable {w : World} {base p room rc : Nat} {R : Option Addr} {fs : List Fl}

theorem filesV_set : ∀ (fs : List Fl) (k : Nat) (f f' : Fl), fs[k]? = some f → f'.nm = f.nm → filesV (fs.set k f') = ((filesV fs).set (k * 3 + 1) f'.row).set (k * 3 + 2) (.int .i64 (f'.sure : Int))
  | [], k, f, f', h, _ => by simp at h
  | g :: r, 0, f, f', h, hn => by
    simp at h
    subst h
    simp only [List.set_cons_zero, filesV, hn, Nat.zero_mul, Nat.zero_add]
    rfl
  | g :: r, k + 1, f, f', h, hn => by
    have := filesV_set r k f f' (by simpa using h) hn
    rw [show (k + 1) * 3 = k * 3 + 1 + 1 + 1 by omega]
    simp only [List.set_cons_succ, filesV, this]
theorem set_same {xs : List Value} {j : Nat} {v : Value} (h : xs[j]? = some v) : xs.set j v = xs := by
  apply List.ext_getElem?
  intro i
  rw [List.getElem?_set]
  split
  · next e =>
    subst e
    split
    · exact h.symm
    · next q => rw [List.getElem?_eq_none (by omega)]
  · rfl
theorem mem_set_or {fs : List Fl} {k : Nat} {f' g : Fl} (h : g ∈ fs.set k f') : g ∈ fs ∨ g = f' := List.mem_or_eq_of_mem_set h
theorem apart_set {fs : List Fl} {k : Nat} {f' : Fl} (h : fs.Pairwise Fl.apart) (h1 : ∀ i g, i ≠ k → fs[i]? = some g → Fl.apart g f' ∧ Fl.apart f' g) : (fs.set k f').Pairwise Fl.apart := by
  rw [List.pairwise_iff_getElem] at h ⊢
  intro i j hi hj hij
  rw [List.length_set] at hi hj
  rw [List.getElem_set, List.getElem_set]
  by_cases e1 : k = i
  · rw [if_pos e1, if_neg (by omega)]
    exact (h1 j _ (by omega) (List.getElem?_eq_getElem hj)).2
  · rw [if_neg e1]
    by_cases e2 : k = j
    · rw [if_pos e2]
      exact (h1 i _ (by omega) (List.getElem?_eq_getElem hi)).1
    · rw [if_neg e2]
      exact h i j hi hj hij
theorem apart_at {fs : List Fl} (h : fs.Pairwise Fl.apart) {i j : Nat} {a b : Fl} (hi : fs[i]? = some a) (hj : fs[j]? = some b) (hij : i ≠ j) : Fl.apart a b := by
  rw [List.pairwise_iff_getElem] at h
  obtain ⟨hi', rfl⟩ := List.getElem?_eq_some_iff.1 hi
  obtain ⟨hj', rfl⟩ := List.getElem?_eq_some_iff.1 hj
  rcases Nat.lt_or_gt_of_ne hij with q | q
  · exact h i j hi' hj' q
  · intro x hx hb
    exact h j i hj' hi' q x hb hx
theorem type_apart {w : World} {i j : Nat} {a b : Array Value} {s t : TypeId} (h1 : w.heap[i]? = some (.cells a s (0, 0))) (h2 : w.heap[j]? = some (.cells b t (0, 0))) (ht : s ≠ t) : i ≠ j := by
  rintro rfl
  rw [h1] at h2
  injection h2 with h2
  injection h2 with h3 h4 h5
  exact ht h4
theorem own_heap {w : World} {base size n : Nat} {e : TypeId} {v : Value} {xs : List Value} (h : w.ownsRow base e size v n xs) {k : Nat} (hk : v.ownBlock = some k) : ∃ cur, w.heap[k]? = some (.cells cur e (0, 0)) := by
  rcases h.2 with ⟨rfl, _⟩ | ⟨g, cap, cur, rfl, hb, hg, _⟩
  · cases hk
  · injection hk with hk
    subst hk
    exact ⟨cur, hg⟩
theorem DiskAt.ne_p (h : DiskAt w base p room R rc fs) {k : Nat} (hk : R.map (·.block) = some k) : p ≠ k := by
  obtain ⟨cur, hc⟩ := own_heap h.row (k := k) (by rw [row_ownBlock]; exact hk)
  exact type_apart h.hd hc (by decide)
theorem DiskAt.ne_f (h : DiskAt w base p room R rc fs) {f : Fl} (hf : f ∈ fs) {j : Nat} (hj : f.blk = some j) : p ≠ j ∧ ∀ k, R.map (·.block) = some k → k ≠ j := by
  obtain ⟨cur, hc⟩ := own_heap (h.own f hf) (k := j) (by rw [Fl.row_own]; exact hj)
  refine ⟨type_apart h.hd hc (by decide), fun k hk => ?_⟩
  obtain ⟨cur2, hc2⟩ := own_heap h.row (k := k) (by rw [row_ownBlock]; exact hk)
  exact type_apart hc2 hc (by decide)

/-- What may be, where one file is another. -/
theorem DOk.set {room : Nat} {fs : List Fl} (h : DOk room fs) {k : Nat} {f f' : Fl} (hf : fs[k]? = some f) (h1 : f'.b.length ≤ f.b.length) (h2 : ∀ c ∈ f'.b, c < 256) (h3 : f'.sure ≤ f'.b.length) (h4 : f'.nm = f.nm) : DOk room (fs.set k f') := by
  have hsum : ∀ (l : List Fl) (k : Nat), l[k]? = some f → ((l.set k f').map fun f => f.b.length).sum ≤ (l.map fun f => f.b.length).sum := by
    intro l
    induction l with
    | nil => intro k hk; simp at hk
    | cons g r ih =>
      intro k hk
      match k with
      | 0 =>
        simp at hk
        subst hk
        simp only [List.set_cons_zero, List.map_cons, List.sum_cons]
        omega
      | k + 1 =>
        have := ih k (by simpa using hk)
        simp only [List.set_cons_succ, List.map_cons, List.sum_cons]
        omega
  refine ⟨h.big, by rw [List.length_set]; exact h.few, Nat.le_trans (hsum fs k hf) h.used, fun g hg => ?_, fun g hg => ?_, fun g hg => ?_⟩
  · rcases mem_set_or hg with hg | rfl
    · exact h.byte g hg
    · exact h2
  · rcases mem_set_or hg with hg | rfl
    · exact h.sure g hg
    · exact h3
  · rcases mem_set_or hg with hg | rfl
    · exact h.nm g hg
    · rw [h4]; exact h.nm f (List.mem_of_getElem? hf)

/-- The block of a row. -/
def rowOf (R : Option Addr) (q : Nat) : Prop := R.map (·.block) = some q
/-- The disk behind stores into the row of files: one file's bytes are cut, or another number of them is sure. -/
theorem DiskAt.reset (h : DiskAt w base p room R rc fs) {w' : World} {k : Nat} {f f' : Fl} (hf : fs[k]? = some f) (hk : Kept w w' (rowOf R))
    (hrow : w'.ownsRow base 49 3 (.slice R fs.length rc) fs.length (filesV (fs.set k f'))) (hA : f'.A = f.A) (hown : w.ownsRow base 5 1 f'.row f'.b.length (bytesV f'.b)) (hok : DOk room (fs.set k f')) : DiskAt w' base p room R rc (fs.set k f') := by
  have hmem := List.mem_of_getElem? hf
  have hblk : f'.blk = f.blk := by unfold Fl.blk; rw [hA]
  refine ⟨h.lo, ?_, by rw [List.length_set]; exact hrow, fun g hg => ?_, ?_, hok⟩
  · rw [hk.block p (h.lt (.inl rfl)).2 (fun e => h.ne_p e rfl), List.length_set]
    exact h.hd
  · rcases mem_set_or hg with hg | rfl
    · exact hk.own (h.own g hg) (fun q e e2 => (h.ne_f hg (by rw [Fl.row_own] at e; exact e)).2 q e2 rfl)
    · exact hk.own hown (fun q e e2 => (h.ne_f hmem (by rw [Fl.row_own, hblk] at e; exact e)).2 q e2 rfl)
  · refine apart_set h.ap (fun i g hi hg => ?_)
    have a1 := apart_at h.ap hg hf hi
    have a2 := apart_at h.ap hf hg (Ne.symm hi)
    unfold Fl.apart at a1 a2 ⊢
    rw [hblk]
    exact ⟨a1, a2⟩

theorem cut_own {w : World} {base n cap k : Nat} {A : Option Addr} {bs : List Nat} (h : w.ownsRow base 5 1 (.slice A n cap) n (bytesV bs)) (hk : k ≤ n) : w.ownsRow base 5 1 (.slice A k cap) k (bytesV (bs.take k)) := by
  have hn : bs.length = n := by have := h.1; rw [bytesV_length] at this; omega
  refine ⟨by rw [bytesV_length, List.length_take]; omega, ?_⟩
  rcases h.2 with ⟨e, e0⟩ | ⟨g, c, cur, e, h1, h2, h3, h4, h5, h6⟩
  · injection e with e1 e2 e3
    left
    subst e0
    have : k = 0 := by omega
    subst this
    exact ⟨by rw [e1, e3], rfl⟩
  · injection e with e1 e2 e3
    right
    refine ⟨g, c, cur, by rw [e1, e3], h1, h2, by omega, h4, h5, ?_⟩
    have e : (cur.toList.take (n * 1)).take (k * 1) = (bytesV bs).take (k * 1) := by rw [h6]
    rw [List.take_take, Nat.min_eq_left (by omega)] at e
    rw [e]
    unfold bytesV
    rw [List.map_take, Nat.mul_one]
theorem kept_setCell (w : World) (a : Addr) (u : Value) {S : Nat → Prop} (h : S a.block) : Kept w (w.setCell a u) S :=
  ⟨rfl, rfl, rfl, by simp [World.setCell], fun k hk hs => Below.heap_setCell _ _ _ _ (fun e => hs (by rw [e]; exact h))⟩
theorem kept_drew {w w' : World} {S : Nat → Prop} (h : Kept w w' S) : Kept w w'.drew S := ⟨h.os, h.tape, h.output, h.size, h.block⟩
end Go.Proofs.Ytofjealjecfkiaa
