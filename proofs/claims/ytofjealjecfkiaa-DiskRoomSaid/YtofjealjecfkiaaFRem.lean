/-
  A disk whose row of files is another; disk's Remove: what it tells, and the disk that it leaves.
-/
import Derived.Test.YtofjealjecfkiaaFIns
set_option maxRecDepth 100000
namespace Go.Proofs.Ytofjealjecfkiaa
open Go.RowKit
attribute [local go_sem ↓] Go.wp_at_zero Go.wp_at_succ
set_option linter.unusedVariables false
variable {w : World} {base p room rc : Nat} {R : Option Addr} {fs : List Fl}

/-- A step that writes blocks of the disk alone, and makes new ones. -/
structure Moved (w w' : World) (base p room : Nat) (R : Option Addr) (fs : List Fl) (R' : Option Addr) (rc' : Nat) (fs' : List Fl) : Prop where
  disk : DiskAt w' base p room R' rc' fs'
  kept : Kept w w' (foot p R fs)
  foot : ∀ q, foot p R' fs' q → foot p R fs q ∨ w.heap.size ≤ q
theorem Moved.trans {w1 w2 : World} {R1 R2 : Option Addr} {rc1 rc2 : Nat} {fs1 fs2 : List Fl} (h : Moved w w1 base p room R fs R1 rc1 fs1) (k : Moved w1 w2 base p room R1 fs1 R2 rc2 fs2) : Moved w w2 base p room R fs R2 rc2 fs2 :=
  ⟨k.disk, h.kept.trans k.kept h.foot, fun q hq => by
    rcases k.foot q hq with e | e
    · exact h.foot q e
    · exact .inr (Nat.le_trans h.kept.size e)⟩
theorem Moved.refl (h : DiskAt w base p room R rc fs) : Moved w w base p room R fs R rc fs := ⟨h, Kept.of_below (Below.refl _ _) _, fun q hq => .inl hq⟩
theorem Moved.same {w' : World} (h : DiskAt w base p room R rc fs) (hb : Below w.heap.size w w') : Moved w w' base p room R fs R rc fs := ⟨h.below hb, Kept.of_below hb _, fun q hq => .inl hq⟩
theorem Moved.drew {w1 : World} {R1 : Option Addr} {rc1 : Nat} {fs1 : List Fl} (h : Moved w w1 base p room R fs R1 rc1 fs1) : Moved w w1.drew base p room R fs R1 rc1 fs1 := ⟨h.disk.drew, kept_drew h.kept, h.foot⟩
theorem Stepped.moved {w' : World} {fs' : List Fl} (h : Stepped w w' base p room R rc fs') (hb : ∀ f ∈ fs', ∃ g ∈ fs, f.blk = g.blk) : Moved w w' base p room R fs R rc fs' :=
  ⟨h.disk, h.kept.mono (fun q hq => .inr (.inl hq)), fun q hq => .inl (by
    rcases hq with e | e | ⟨f, hf, e⟩
    · exact .inl e
    · exact .inr (.inl e)
    · obtain ⟨g, hg, e2⟩ := hb f hf
      exact .inr (.inr ⟨g, hg, by rw [← e2]; exact e⟩))⟩
theorem set_blk {fs : List Fl} {k : Nat} {f f' : Fl} (hf : fs[k]? = some f) (hA : f'.A = f.A) : ∀ x ∈ fs.set k f', ∃ g ∈ fs, x.blk = g.blk := by
  intro x hx
  rcases mem_set_or hx with hx | rfl
  · exact ⟨x, hx, rfl⟩
  · exact ⟨f, List.mem_of_getElem? hf, by unfold Fl.blk; rw [hA]⟩
theorem crash_blk (ks : List Int) (fs : List Fl) : ∀ x ∈ crashAll ks fs, ∃ g ∈ fs, x.blk = g.blk := by
  intro x hx
  obtain ⟨i, hi, e⟩ := List.mem_iff_getElem.1 hx
  unfold crashAll at hi e
  rw [List.length_mapIdx] at hi
  rw [List.getElem_mapIdx] at e
  exact ⟨fs[i], List.getElem_mem _, by rw [← e]; rfl⟩

/-- The disk behind the store of another row of files. -/
theorem DiskAt.reroll (h : DiskAt w base p room R rc fs) {w1 : World} {S : Nat → Prop} (hk : Kept w w1 S) (hp : ¬ S p) {R' : Option Addr} {rc' : Nat} {fs' : List Fl} (hrow : w1.ownsRow base 49 3 (.slice R' fs'.length rc') fs'.length (filesV fs'))
    (hown : ∀ f ∈ fs', w1.ownsRow base 5 1 f.row f.b.length (bytesV f.b)) (hap : fs'.Pairwise Fl.apart) (hok : DOk room fs') : DiskAt (w1.setCell ⟨p, 1, none⟩ (.slice R' fs'.length rc')) base p room R' rc' fs' := by
  have hp1 : w1.heap[p]? = some (.cells #[.int .i64 (room : Int), .slice R fs.length rc] 44 (0, 0)) := by rw [hk.block p (h.lt (.inl rfl)).2 hp]; exact h.hd
  have hkd : Kept w1 (w1.setCell ⟨p, 1, none⟩ (.slice R' fs'.length rc')) (fun q => q = p) := kept_setCell w1 ⟨p, 1, none⟩ _ rfl
  refine ⟨h.lo, ?_, hkd.own hrow (fun k e => ?_), fun f hf => hkd.own (hown f hf) (fun k e => ?_), hap, hok⟩
  · rw [heap_setCell_same w1 p 1 _ 44 _ hp1]
    rfl
  · obtain ⟨cur, hc⟩ := own_heap hrow e
    exact fun q => type_apart hp1 hc (by decide) q.symm
  · obtain ⟨cur, hc⟩ := own_heap (hown f hf) e
    exact fun q => type_apart hp1 hc (by decide) q.symm

theorem sum_sub {a b : List Nat} (h : a.Sublist b) : a.sum ≤ b.sum := by
  induction h with
  | slnil => exact Nat.le_refl _
  | cons x _ ih => rw [List.sum_cons]; omega
  | cons_cons x _ ih => rw [List.sum_cons, List.sum_cons]; omega
theorem DOk.sub {room : Nat} {fs fs' : List Fl} (h : DOk room fs) (hs : fs'.Sublist fs) : DOk room fs' := by
  refine ⟨h.big, Nat.le_trans hs.length_le h.few, Nat.le_trans ?_ h.used, fun f hf => h.byte f (hs.subset hf), fun f hf => h.sure f (hs.subset hf), fun f hf => h.nm f (hs.subset hf)⟩
  exact sum_sub (hs.map _)
theorem remove_none (s : List UInt8) (h : DiskAt w base p room R rc fs) (hc : (lookC fs s).2 ≠ 0) :
    Calls Try.prog 13 #[.pointer (some ⟨p, 0, none⟩), str s] w fun e w' => e = .returned (.int .i64 ((lookC fs s).2 : Int)) ∧ w = w' := by
  have M := Lib.hid (look_any s h)
  generalize (lookC fs s).1 = a at *
  generalize (lookC fs s).2 = c at *
  have hc' : ¬ (c : Int) = 0 := by omega
  clear h hc
  go_enter Try.func13, Try.ntmps13
  go_wp2_with fail
  refine M.out.mono ?_
  rintro e w' ⟨rfl, rfl⟩
  go_wp2
  go_ret
  exact ⟨rfl, rfl⟩

/-- What Delete and the store behind it leave. -/
theorem erased (h : DiskAt w base p room R rc fs) {k : Nat} (hk : k < fs.length) {g : Nat} (hR : R = some ⟨g, 0, none⟩) {w1 : World} (hrow : w1.ownsRow base 49 3 (.slice (some ⟨g, 0, none⟩) (fs.length - 1) rc) (fs.length - 1) ((filesV fs).take (k * 3) ++ (filesV fs).drop ((k + 1) * 3)))
    (hkd : Kept w w1 (fun q => q = g)) : Moved w (w1.setCell ⟨p, 1, none⟩ (.slice (some ⟨g, 0, none⟩) (fs.length - 1) rc)) base p room R fs (some ⟨g, 0, none⟩) rc (fs.eraseIdx k) := by
  subst hR
  have hl : (fs.eraseIdx k).length = fs.length - 1 := by rw [List.length_eraseIdx, if_pos hk]
  have hsub : (fs.eraseIdx k).Sublist fs := List.eraseIdx_sublist _ _
  have e : filesV (fs.eraseIdx k) = (filesV fs).take (k * 3) ++ (filesV fs).drop ((k + 1) * 3) := by rw [List.eraseIdx_eq_take_drop_succ, filesV_append, filesV_take, filesV_drop]
  rw [← e] at hrow
  rw [← hl] at hrow ⊢
  refine ⟨h.reroll hkd (fun q => h.ne_p rfl q) hrow (fun f hf => hkd.own (h.own f (hsub.subset hf)) (fun q hq e => ?_)) (h.ap.sublist hsub) (h.ok.sub hsub), ?_, fun q hq => .inl ?_⟩
  · exact (h.ne_f (hsub.subset hf) (by rw [Fl.row_own] at hq; exact hq)).2 g rfl e.symm
  · exact (hkd.mono (fun q hq => .inr (.inl (by rw [hq]; rfl)))).trans (kept_setCell w1 ⟨p, 1, none⟩ _ (S := foot p (some ⟨g, 0, none⟩) fs) (.inl rfl)) (fun j hj => .inl hj)
  · rcases hq with q1 | q1 | ⟨f, hf, q1⟩
    · exact .inl q1
    · exact .inr (.inl q1)
    · exact .inr (.inr ⟨f, hsub.subset hf, q1⟩)

set_option maxHeartbeats 1000000 in
theorem remove_there (s : List UInt8) (h : DiskAt w base p room R rc fs) {f : Fl} {k : Nat} (hc : lookC fs s = (k, 0)) (hf : fs[k]? = some f) :
    Calls Try.prog 13 #[.pointer (some ⟨p, 0, none⟩), str s] w fun e w' => e = .returned (.int .i64 0) ∧ Moved w w' base p room R fs R rc (fs.eraseIdx k) := by
  have m := look_any s h
  have hlt := (List.getElem?_eq_some_iff.1 hf).1
  obtain ⟨g, rfl, _, _, hle1, hle2, _, _⟩ := h.at_ (by omega)
  have c1 := h.cell1
  have fp := h.froz 1
  have hfew := h.ok.few
  rw [hc] at m
  have M := Lib.hid m
  have M2 := Lib.hid (delete_one h.row (by omega) hlt (filesV_one fs))
  have HE : Hid (∀ w1, w1.ownsRow base 49 3 (.slice (some ⟨g, 0, none⟩) (fs.length - 1) rc) (fs.length - 1) ((filesV fs).take (k * 3) ++ (filesV fs).drop ((k + 1) * 3)) → Kept w w1 (fun q => q = g) → w1.cell? ⟨p, 1, none⟩ = some (.slice (some ⟨g, 0, none⟩) fs.length rc) ∧ w1.frozen? ⟨p, 1, none⟩ = false ∧ Moved w (w1.setCell ⟨p, 1, none⟩ (.slice (some ⟨g, 0, none⟩) (fs.length - 1) rc)) base p room (some ⟨g, 0, none⟩) fs (some ⟨g, 0, none⟩) rc (fs.eraseIdx k)) :=
    Lib.hid (fun w1 ho hk => by
      have hb : w1.heap[p]? = w.heap[p]? := hk.block p (h.lt (.inl rfl)).2 (fun e => h.ne_p rfl e)
      exact ⟨(World.cell?_of_block (a := ⟨p, 1, none⟩) hb).trans h.cell1, (World.frozen?_of_block (a := ⟨p, 1, none⟩) hb).trans (h.froz 1), erased h hlt rfl ho hk⟩)
  unfold maxLen at hle2
  have hw1 : IntKind.i64.wrap ((k : Int) + 1) = ((k + 1 : Nat) : Int) := by rw [IntKind.wrap_i64]; omega
  clear m hf hc h
  generalize fs.length = n at *
  go_enter Try.func13, Try.ntmps13
  go_wp2_with fail
  refine M.out.mono ?_
  rintro e w' ⟨rfl, rfl⟩
  go_wp2_with fail
  refine M2.out.mono ?_
  rintro e w1 ⟨rfl, ho, hk, hsz⟩
  obtain ⟨d1, d2, d3⟩ := HE.out w1 ho hk
  have D3 := Lib.hid d3
  clear d3 ho hk hsz HE M M2
  go_wp2
  go_ret
  exact ⟨rfl, D3.out⟩
end Go.Proofs.Ytofjealjecfkiaa
