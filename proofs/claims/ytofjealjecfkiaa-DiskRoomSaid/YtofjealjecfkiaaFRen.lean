/-
  disk's Rename: what a file in another's place, or behind all others, leaves of a disk.
-/
import Derived.Test.YtofjealjecfkiaaFAppM
set_option maxRecDepth 100000
namespace Go.Proofs.Ytofjealjecfkiaa
open Go.RowKit
attribute [local go_sem ↓] Go.wp_at_zero Go.wp_at_succ
set_option linter.unusedVariables false
variable {w : World} {base p room rc : Nat} {R : Option Addr} {fs : List Fl}

theorem filesV_set3 : ∀ (fs : List Fl) (k : Nat) (f' : Fl), k < fs.length → filesV (fs.set k f') = (((filesV fs).set (k * 3) (str f'.nm)).set (k * 3 + 1) f'.row).set (k * 3 + 2) (.int .i64 (f'.sure : Int))
  | [], k, f', h => by simp at h
  | g :: r, 0, f', h => by
    simp only [List.set_cons_zero, filesV, Nat.zero_mul, Nat.zero_add]
    rfl
  | g :: r, k + 1, f', h => by
    have := filesV_set3 r k f' (by simpa using h)
    rw [show (k + 1) * 3 = k * 3 + 1 + 1 + 1 by omega]
    simp only [List.set_cons_succ, filesV, this]
/-- Another file in the place of one. -/
theorem DiskAt.put (h : DiskAt w base p room R rc fs) {w' : World} {k : Nat} {f' : Fl} (hk : Kept w w' (rowOf R)) (hrow : w'.ownsRow base 49 3 (.slice R fs.length rc) fs.length (filesV (fs.set k f'))) (hown : w.ownsRow base 5 1 f'.row f'.b.length (bytesV f'.b))
    (hap : ∀ g ∈ fs, Fl.apart g f' ∧ Fl.apart f' g) (hok : DOk room (fs.set k f')) : DiskAt w' base p room R rc (fs.set k f') := by
  refine ⟨h.lo, ?_, by rw [List.length_set]; exact hrow, fun g hg => ?_, apart_set h.ap (fun i g hi hg => hap g (List.mem_of_getElem? hg)), hok⟩
  · rw [hk.block p (h.lt (.inl rfl)).2 (fun e => h.ne_p e rfl), List.length_set]
    exact h.hd
  · rcases mem_set_or hg with hg | rfl
    · exact hk.own (h.own g hg) (fun q e e2 => (h.ne_f hg (by rw [Fl.row_own] at e; exact e)).2 q e2 rfl)
    · refine hk.own hown (fun q e e2 => ?_)
      obtain ⟨c1, e1⟩ := own_heap hown e
      obtain ⟨c2, e3⟩ := own_heap h.row (k := q) (by rw [row_ownBlock]; exact e2)
      exact type_apart e3 e1 (by decide) rfl
/-- One more file, wherever. -/
theorem DiskAt.add (h : DiskAt w base p room R rc fs) {W : World} (hb : Below w.heap.size w W) {w4 : World} {g' rc' : Nat} {l : List Fl} {f' : Fl} (hl : l.Perm (f' :: fs)) (hpw : l.Pairwise Fl.apart) (hown : w.ownsRow base 5 1 f'.row f'.b.length (bytesV f'.b)) (hok : DOk room l)
    (q2 : w4.ownsRow base 49 3 (.slice (some ⟨g', 0, none⟩) (fs.length + 1) rc') (fs.length + 1) (filesV l)) (q3 : W.grownBy w4 (R.map (·.block))) (q4 : rowOf R g' ∨ g' = W.heap.size) :
    w4.cell? ⟨p, 1, none⟩ = some (.slice R fs.length rc) ∧ w4.frozen? ⟨p, 1, none⟩ = false ∧ DiskAt (w4.setCell ⟨p, 1, none⟩ (.slice (some ⟨g', 0, none⟩) (fs.length + 1) rc')) base p room (some ⟨g', 0, none⟩) rc' l ∧ Kept w (w4.setCell ⟨p, 1, none⟩ (.slice (some ⟨g', 0, none⟩) (fs.length + 1) rc')) (fun q => q = p ∨ rowOf R q) := by
  have hd := h.below hb
  have hk : Kept W w4 (rowOf R) := Kept.of_grown q3 (fun k e => e)
  have hlen : l.length = fs.length + 1 := by rw [hl.length_eq]; rfl
  have b1 : w4.heap[p]? = W.heap[p]? := hk.block p (hd.lt (.inl rfl)).2 (fun e => hd.ne_p e rfl)
  have hownW : W.ownsRow base 5 1 f'.row f'.b.length (bytesV f'.b) := (Kept.of_below hb (fun _ => False)).own hown (fun _ _ e => e)
  refine ⟨(World.cell?_of_block (a := ⟨p, 1, none⟩) b1).trans hd.cell1, (World.frozen?_of_block (a := ⟨p, 1, none⟩) b1).trans (hd.froz 1), ?_⟩
  rw [← hlen] at q2 ⊢
  have hmem : ∀ f ∈ l, f = f' ∨ f ∈ fs := fun f hf => List.mem_cons.1 (hl.mem_iff.1 hf)
  refine ⟨hd.reroll hk (fun e => hd.ne_p e rfl) q2 (fun f hf => ?_) hpw hok, ?_⟩
  · rcases hmem f hf with rfl | hf
    · refine hk.own hownW (fun q e e2 => ?_)
      obtain ⟨c1, e1⟩ := own_heap hownW e
      obtain ⟨c2, e3⟩ := own_heap hd.row (k := q) (by rw [row_ownBlock]; exact e2)
      exact type_apart e3 e1 (by decide) rfl
    · exact hk.own (hd.own f hf) (fun q e e2 => (hd.ne_f hf (by rw [Fl.row_own] at e; exact e)).2 q e2 rfl)
  · have k1 : Kept w W (fun q => q = p ∨ rowOf R q) := Kept.of_below hb _
    have k2 : Kept W w4 (fun q => q = p ∨ rowOf R q) := hk.mono (fun q e => .inr e)
    exact (k1.trans k2 (fun q e => .inl e)).trans (kept_setCell w4 ⟨p, 1, none⟩ _ (S := fun q => q = p ∨ rowOf R q) (.inl rfl)) (fun q e => .inl e)

theorem erase_mem {fs : List Fl} {k : Nat} {f g : Fl} (h : fs.Pairwise Fl.apart) (hf : fs[k]? = some f) (hg : g ∈ fs.eraseIdx k) : Fl.apart g f ∧ Fl.apart f g := by
  obtain ⟨i, hi, e⟩ := List.mem_eraseIdx_iff_getElem?.1 hg
  exact ⟨apart_at h e hf hi, apart_at h hf e (Ne.symm hi)⟩
theorem usedOf_erase : ∀ {fs : List Fl} {k : Nat} {f : Fl}, fs[k]? = some f → usedOf (fs.eraseIdx k) + f.b.length = usedOf fs
  | [], k, f, h => by simp at h
  | g :: r, 0, f, h => by
    simp at h
    subst h
    simp only [List.eraseIdx_cons_zero, usedOf_cons]
    omega
  | g :: r, k + 1, f, h => by
    have := usedOf_erase (fs := r) (k := k) (by simpa using h)
    simp only [List.eraseIdx_cons_succ, usedOf_cons]
    omega
/-- The file by another name. -/
def Fl.named (f : Fl) (to_ : List UInt8) : Fl := { f with nm := to_ }
theorem Fl.named_row (f : Fl) (s : List UInt8) : (f.named s).row = f.row := rfl
theorem Fl.named_blk (f : Fl) (s : List UInt8) : (f.named s).blk = f.blk := rfl
theorem DOk.renamed {room : Nat} {fs : List Fl} (h : DOk room fs) {k : Nat} {f : Fl} {s : List UInt8} (hf : fs[k]? = some f) (hs : s.length ≤ 20) {l : List Fl} (hu : usedOf l ≤ usedOf fs) (hn : l.length ≤ fs.length) (hm : ∀ g ∈ l, g = f.named s ∨ g ∈ fs) : DOk room l := by
  have hmem := List.mem_of_getElem? hf
  refine ⟨h.big, Nat.le_trans hn h.few, Nat.le_trans hu h.used, fun g hg => ?_, fun g hg => ?_, fun g hg => ?_⟩
  · rcases hm g hg with rfl | hg
    · exact h.byte f hmem
    · exact h.byte g hg
  · rcases hm g hg with rfl | hg
    · exact h.sure f hmem
    · exact h.sure g hg
  · rcases hm g hg with rfl | hg
    · exact hs
    · exact h.nm g hg
end Go.Proofs.Ytofjealjecfkiaa
