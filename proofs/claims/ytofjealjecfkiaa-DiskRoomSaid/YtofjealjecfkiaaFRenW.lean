/-
  disk's Rename: what it tells, and the disk that it leaves.
-/
import Derived.Test.YtofjealjecfkiaaFRen
set_option maxRecDepth 100000
namespace Go.Proofs.Ytofjealjecfkiaa
open Go.RowKit
attribute [local go_sem ↓] Go.wp_at_zero Go.wp_at_succ
set_option linter.unusedVariables false
variable {w : World} {base p room rc : Nat} {R : Option Addr} {fs : List Fl}

theorem rename_none (s t : List UInt8) (h : DiskAt w base p room R rc fs) (ht : isNm t = true) (hne : s ≠ t) (hc : (lookC fs s).2 ≠ 0) :
    Calls Try.prog 16 #[.pointer (some ⟨p, 0, none⟩), str s, str t] w fun e w' => e = .returned (.int .i64 ((lookC fs s).2 : Int)) ∧ w = w' := by
  have M := Lib.hid (look_any s h)
  have m0 := fun w => isName_any t w
  rw [ht] at m0
  have M0 := Lib.hid m0
  unfold str at *
  have hbeq : ((ByteArray.mk s.toArray).toList == (ByteArray.mk t.toArray).toList) = false := by rw [toL, toL]; simpa using hne
  generalize ByteArray.mk s.toArray = S at *
  generalize ByteArray.mk t.toArray = T at *
  generalize (lookC fs s).1 = a at *
  generalize (lookC fs s).2 = c at *
  have hc' : ¬ (c : Int) = 0 := by omega
  clear h hc ht hne m0
  go_enter Try.func16, Try.ntmps16
  go_wp2_with fail
  refine (M0.out _).mono ?_
  rintro e w' ⟨rfl, rfl⟩
  go_wp2_with fail
  refine M.out.mono ?_
  rintro e w' ⟨rfl, rfl⟩
  go_wp2
  go_ret
  exact ⟨rfl, rfl⟩

/-- What Delete and the store behind it leave, amid Rename. -/
theorem ren_del {g k F : Nat} {f : Fl} {x : Value} (h : DiskAt w base p room (some ⟨g, 0, none⟩) rc fs) (hf : fs[k]? = some f) (hF : w.heap.size ≤ F) {v : World} (hv : Below w.heap.size w v) (hb : v.heap[F]? = some (.cells #[x, f.row, .int .i64 (f.sure : Int)] 49 (0, 0))) {w4 : World}
    (ho : w4.ownsRow base 49 3 (.slice (some ⟨g, 0, none⟩) (fs.length - 1) rc) (fs.length - 1) ((filesV fs).take (k * 3) ++ (filesV fs).drop ((k + 1) * 3))) (hk : Kept v w4 (fun q => q = g)) :
    w4.cell? ⟨p, 1, none⟩ = some (.slice (some ⟨g, 0, none⟩) fs.length rc) ∧ w4.frozen? ⟨p, 1, none⟩ = false ∧ Moved w (w4.setCell ⟨p, 1, none⟩ (.slice (some ⟨g, 0, none⟩) (fs.length - 1) rc)) base p room (some ⟨g, 0, none⟩) fs (some ⟨g, 0, none⟩) rc (fs.eraseIdx k) ∧
      (w4.setCell ⟨p, 1, none⟩ (.slice (some ⟨g, 0, none⟩) (fs.length - 1) rc)).heap[F]? = some (.cells #[x, f.row, .int .i64 (f.sure : Int)] 49 (0, 0)) ∧ (w4.setCell ⟨p, 1, none⟩ (.slice (some ⟨g, 0, none⟩) (fs.length - 1) rc)).ownsRow base 5 1 f.row f.b.length (bytesV f.b) := by
  have hd := h.below hv
  have hlt := (List.getElem?_eq_some_iff.1 hf).1
  have hmem := List.mem_of_getElem? hf
  have hgF : g < F := Nat.lt_of_lt_of_le (h.lt (k := g) (.inr (.inl rfl))).2 hF
  have hpF : p < F := Nat.lt_of_lt_of_le (h.lt (k := p) (.inl rfl)).2 hF
  have hFv : F < v.heap.size := (Array.getElem?_eq_some_iff.1 hb).1
  have b1 : w4.heap[p]? = v.heap[p]? := hk.block p (hd.lt (.inl rfl)).2 (fun e => hd.ne_p rfl e)
  have b2 : w4.heap[F]? = v.heap[F]? := hk.block F hFv (fun e => by have e' : F = g := e; omega)
  have hm := erased hd hlt rfl ho hk
  refine ⟨(World.cell?_of_block (a := ⟨p, 1, none⟩) b1).trans hd.cell1, (World.frozen?_of_block (a := ⟨p, 1, none⟩) b1).trans (hd.froz 1), (Moved.same h hv).trans hm, ?_, ?_⟩
  · rw [Below.heap_setCell _ _ _ _ (show F ≠ p by omega), b2]
    exact hb
  · refine (kept_setCell w4 ⟨p, 1, none⟩ _ (S := fun q => q = p) rfl).own (hk.own (hd.own f hmem) (fun q e e2 => ?_)) (fun q e e2 => ?_)
    · exact (hd.ne_f hmem (by rw [Fl.row_own] at e; exact e)).2 g rfl e2.symm
    · exact (hd.ne_f hmem (by rw [Fl.row_own] at e; exact e)).1 e2.symm

set_option maxHeartbeats 4000000 in
/-- In the place of another. -/
theorem rename_onto (s t : List UInt8) (h : DiskAt w base p room R rc fs) (ht : isNm t = true) (ht20 : t.length ≤ 20) (hne : s ≠ t) {k j : Nat} {f : Fl} (hc : lookC fs s = (k, 0)) (hf : fs[k]? = some f) (hj : plc (fs.eraseIdx k) t = (j, true)) :
    Calls Try.prog 16 #[.pointer (some ⟨p, 0, none⟩), str s, str t] w fun e w' => e = .returned (.int .i64 0) ∧ Moved w w' base p room R fs R rc ((fs.eraseIdx k).set j (f.named t)) := by
  have m := look_any s h
  have hlt := (List.getElem?_eq_some_iff.1 hf).1
  have hmem : f ∈ fs := List.mem_of_getElem? hf
  obtain ⟨g, rfl, hg1, hg2, hle1, hle2, _, hcell⟩ := h.at_ (by omega)
  obtain ⟨k0, k1, k2⟩ := hcell k f hf
  have c1 := h.cell1
  have hfew := h.ok.few
  have hl1 : (fs.eraseIdx k).length = fs.length - 1 := by rw [List.length_eraseIdx, if_pos hlt]
  have hjl : j < (fs.eraseIdx k).length := by
    have := place_there (l := (fs.eraseIdx k).map Fl.nm) (s := t) (by rw [show place ((fs.eraseIdx k).map Fl.nm) t = (j, true) from hj])
    rw [show place ((fs.eraseIdx k).map Fl.nm) t = (j, true) from hj] at this
    have := (List.getElem?_eq_some_iff.1 this).1
    simpa using this
  rw [hc] at m
  have M := Lib.hid m
  have m0 := fun w => isName_any t w
  rw [ht] at m0
  have M0 := Lib.hid m0
  have MC : Hid (∀ v, Calls Try.prog 20 #[str t] v fun e w' => e = .returned (str t) ∧ Below v.heap.size v w') := Lib.hid (fun v => sclone_any t v (by omega))
  have MD : Hid (∀ v, Below w.heap.size w v → v.heap[w.heap.size]? = some (.cells #[str t, f.row, .int .i64 (f.sure : Int)] 49 (0, 0)) → Calls Try.prog 22 #[.slice (some ⟨g, 0, none⟩) fs.length rc, .int .i64 (k : Int), .int .i64 (k + 1 : Nat)] v fun e w4 => e = .returned (.slice (some ⟨g, 0, none⟩) (fs.length - 1) rc) ∧
      (w4.cell? ⟨p, 1, none⟩ = some (.slice (some ⟨g, 0, none⟩) fs.length rc) ∧ w4.frozen? ⟨p, 1, none⟩ = false ∧ Moved w (w4.setCell ⟨p, 1, none⟩ (.slice (some ⟨g, 0, none⟩) (fs.length - 1) rc)) base p room (some ⟨g, 0, none⟩) fs (some ⟨g, 0, none⟩) rc (fs.eraseIdx k) ∧
      (w4.setCell ⟨p, 1, none⟩ (.slice (some ⟨g, 0, none⟩) (fs.length - 1) rc)).heap[w.heap.size]? = some (.cells #[str t, f.row, .int .i64 (f.sure : Int)] 49 (0, 0)) ∧ (w4.setCell ⟨p, 1, none⟩ (.slice (some ⟨g, 0, none⟩) (fs.length - 1) rc)).ownsRow base 5 1 f.row f.b.length (bytesV f.b))) := Lib.hid (fun v hv hb => by
    refine (delete_one (h.below hv).row (by omega) hlt (filesV_one fs)).mono ?_
    rintro e w4 ⟨rfl, ho, hk, _⟩
    exact ⟨rfl, ren_del h hf (Nat.le_refl _) hv hb ho hk⟩)
  have MP : Hid (∀ w5, Moved w w5 base p room (some ⟨g, 0, none⟩) fs (some ⟨g, 0, none⟩) rc (fs.eraseIdx k) → Calls Try.prog 24 #[.pointer (some ⟨p, 0, none⟩), str t] w5 fun e w' => e = .returned (.tuple #[.int .i64 (j : Int), .bool true]) ∧ w5 = w') := Lib.hid (fun w5 hm => by
    have := placeOf_any t hm.disk
    rw [hj] at this
    exact this)
  have HX : Hid (∀ w5, Moved w w5 base p room (some ⟨g, 0, none⟩) fs (some ⟨g, 0, none⟩) rc (fs.eraseIdx k) → w5.heap[w.heap.size]? = some (.cells #[str t, f.row, .int .i64 (f.sure : Int)] 49 (0, 0)) → w5.ownsRow base 5 1 f.row f.b.length (bytesV f.b) →
      (w5.cell? ⟨p, 1, none⟩ = some (.slice (some ⟨g, 0, none⟩) (fs.length - 1) rc) ∧ w5.cell? ⟨w.heap.size, 0, none⟩ = some (str t) ∧ w5.cell? ⟨w.heap.size, 1, none⟩ = some (.slice f.A f.b.length f.cap) ∧ w5.cell? ⟨w.heap.size, 2, none⟩ = some (.int .i64 (f.sure : Int)) ∧
      (∃ n' a' b' c' s', w5.cell? ⟨g, j * 3, none⟩ = some (.string n') ∧ w5.cell? ⟨g, j * 3 + 1, none⟩ = some (.slice a' b' c') ∧ w5.cell? ⟨g, j * 3 + 2, none⟩ = some (.int .i64 s')) ∧ w5.frozen? ⟨g, j * 3, none⟩ = false ∧ w5.frozen? ⟨g, j * 3 + 1, none⟩ = false ∧ w5.frozen? ⟨g, j * 3 + 2, none⟩ = false ∧
      Moved w (((w5.setCell ⟨g, j * 3, none⟩ (str t)).setCell ⟨g, j * 3 + 1, none⟩ (.slice f.A f.b.length f.cap)).setCell ⟨g, j * 3 + 2, none⟩ (.int .i64 (f.sure : Int))) base p room (some ⟨g, 0, none⟩) fs (some ⟨g, 0, none⟩) rc ((fs.eraseIdx k).set j (f.named t)))) := Lib.hid (fun w5 hm hb ho => by
    have hd := hm.disk
    obtain ⟨g2, eg, _, _, _, _, _, hcell⟩ := hd.at_ (by omega)
    injection eg with eg
    injection eg with eg
    subst eg
    obtain ⟨y0, y1, y2⟩ := hcell j _ (List.getElem?_eq_getElem hjl)
    have c1 := hd.cell1
    rw [hl1] at c1
    refine ⟨c1, by rw [cell_of_row _ _ 0 _ _ _ hb]; rfl, by rw [cell_of_row _ _ 1 _ _ _ hb]; rfl, by rw [cell_of_row _ _ 2 _ _ _ hb]; rfl, ⟨_, _, _, _, _, y0, y1, y2⟩, hd.row.frozenAt _, hd.row.frozenAt _, hd.row.frozenAt _, ?_⟩
    have s1 := (hd.row.stored (j * 3) (str t)).1
    have s2 := (s1.stored (j * 3 + 1) (.slice f.A f.b.length f.cap)).1
    have s3 := (s2.stored (j * 3 + 2) (.int .i64 (f.sure : Int))).1
    have hk3 : Kept w5 (((w5.setCell ⟨g, j * 3, none⟩ (str t)).setCell ⟨g, j * 3 + 1, none⟩ (.slice f.A f.b.length f.cap)).setCell ⟨g, j * 3 + 2, none⟩ (.int .i64 (f.sure : Int))) (rowOf (some ⟨g, 0, none⟩)) :=
      ((kept_setCell w5 ⟨g, j * 3, none⟩ _ (S := rowOf (some ⟨g, 0, none⟩)) rfl).trans (kept_setCell _ ⟨g, j * 3 + 1, none⟩ _ (S := rowOf (some ⟨g, 0, none⟩)) rfl) (fun q hq => .inl hq)).trans (kept_setCell _ ⟨g, j * 3 + 2, none⟩ _ (S := rowOf (some ⟨g, 0, none⟩)) rfl) (fun q hq => .inl hq)
    have hu1 := usedOf_erase hf
    have hu2 := usedOf_set (f.named t) (List.getElem?_eq_getElem hjl)
    have hn1 : (f.named t).b.length = f.b.length := rfl
    have hok : DOk room ((fs.eraseIdx k).set j (f.named t)) := h.ok.renamed hf ht20 (by omega) (by rw [List.length_set]; omega) (fun g hg => by
      rcases mem_set_or hg with hg | hg
      · exact .inr ((List.eraseIdx_sublist _ _).subset hg)
      · exact .inl hg)
    have hdp := hd.put (f' := f.named t) (k := j) hk3 (by rw [filesV_set3 _ _ _ hjl]; exact s3) ho (fun q hq => (erase_mem h.ap hf hq : Fl.apart q f ∧ Fl.apart f q)) hok
    refine ⟨hdp, hm.kept.trans hk3 (fun q hq => .inl (.inr (.inl hq))), fun q hq => ?_⟩
    rcases hq with q1 | q1 | ⟨x, hx, q1⟩
    · exact .inl (.inl q1)
    · exact .inl (.inr (.inl q1))
    · rcases mem_set_or hx with hx | rfl
      · exact .inl (.inr (.inr ⟨x, (List.eraseIdx_sublist _ _).subset hx, q1⟩))
      · exact .inl (.inr (.inr ⟨f, hmem, q1⟩)))
  have HC1 : Hid (∀ v, Below w.heap.size w v → v.cell? ⟨p, 1, none⟩ = some (.slice (some ⟨g, 0, none⟩) fs.length rc)) := Lib.hid (fun v hv => (h.below hv).cell1)
  have HB2 : Hid (∀ W2, Below (w.alloc (.cells #[str f.nm, .slice f.A f.b.length f.cap, .int .i64 (f.sure : Int)] 49)).heap.size (w.alloc (.cells #[str f.nm, .slice f.A f.b.length f.cap, .int .i64 (f.sure : Int)] 49)) W2 →
      W2.cell? ⟨w.heap.size, 0, none⟩ = some (str f.nm) ∧ W2.frozen? ⟨w.heap.size, 0, none⟩ = false ∧ (W2.setCell ⟨w.heap.size, 0, none⟩ (str t)).cell? ⟨p, 1, none⟩ = some (.slice (some ⟨g, 0, none⟩) fs.length rc) ∧
      Below w.heap.size w (W2.setCell ⟨w.heap.size, 0, none⟩ (str t)) ∧ (W2.setCell ⟨w.heap.size, 0, none⟩ (str t)).heap[w.heap.size]? = some (.cells #[str t, f.row, .int .i64 (f.sure : Int)] 49 (0, 0))) := Lib.hid (fun W2 hb => by
    have b0 : W2.heap[w.heap.size]? = some (.cells #[str f.nm, .slice f.A f.b.length f.cap, .int .i64 (f.sure : Int)] 49 (0, 0)) := by
      rw [hb.block _ (by simp)]
      exact heap_alloc_new w _
    have hbw : Below w.heap.size w (W2.setCell ⟨w.heap.size, 0, none⟩ (str t)) := (past (below_box w _) hb).setCell (by exact Nat.le_refl _) _
    exact ⟨by rw [cell_of_row _ _ 0 _ _ _ b0]; rfl, frozen_of_row _ _ _ _ _ b0, HC1.out _ hbw, hbw, by rw [heap_setCell_same W2 _ 0 _ 49 _ b0]; rfl⟩)
  have hw1 : IntKind.i64.wrap ((k : Int) + 1) = ((k + 1 : Nat) : Int) := by rw [IntKind.wrap_i64]; omega
  have hkn : (k : Int) < (fs.length : Int) := by omega
  have hjn : (j : Int) < ((fs.length - 1 : Nat) : Int) := by omega
  have hjn2 : j < fs.length - 1 := by omega
  have hpF : p ≠ w.heap.size := fun e => absurd (h.lt (k := p) (.inl rfl)).2 (by omega)
  have hgF : g ≠ w.heap.size := by omega
  have hn1 : fs.length - 1 ≤ rc := by omega
  unfold maxLen at hle2
  unfold Fl.row at k1 MD HX HB2
  have hbeq : ((ByteArray.mk s.toArray).toList == (ByteArray.mk t.toArray).toList) = false := by rw [toL, toL]; simpa using hne
  clear m m0 hc hf hmem hcell hl1 hjl hj hne ht h
  unfold str at *
  generalize ByteArray.mk s.toArray = S at *
  generalize ByteArray.mk t.toArray = T at *
  generalize ByteArray.mk f.nm.toArray = NM at *
  generalize fs.length - 1 = n1 at *
  generalize fs.length = n at *
  go_enter Try.func16, Try.ntmps16
  go_wp2_with fail
  refine (M0.out _).mono ?_
  rintro e w' ⟨rfl, rfl⟩
  go_wp2_with fail
  refine M.out.mono ?_
  rintro e w' ⟨rfl, rfl⟩
  go_wp2_with fail
  refine (MC.out _).mono ?_
  rintro e W2 ⟨rfl, hb2⟩
  obtain ⟨x0, x1, x2, x3, x4⟩ := HB2.out W2 hb2
  have X3 := Lib.hid x3
  have X4 := Lib.hid x4
  clear x3 x4 hb2 HB2 MC M M0
  go_wp2_with fail
  refine (MD.out _ X3.out X4.out).mono ?_
  rintro e w4 ⟨rfl, y0, y1, y2, y3, y4⟩
  have Y2 := Lib.hid y2
  have Y3 := Lib.hid y3
  have Y4 := Lib.hid y4
  clear y2 y3 y4 MD X3 X4
  go_wp2_with fail
  refine (MP.out _ Y2.out).mono ?_
  rintro e w5 ⟨rfl, rfl⟩
  obtain ⟨z0, z1, z2, z3, ⟨n', a', b', c', s', z4, z5, z6⟩, z7, z8, z9, hm⟩ := HX.out _ Y2.out Y3.out Y4.out
  have HM := Lib.hid hm
  clear hm HX MP Y2 Y3 Y4 y0 y1
  generalize w4.setCell ⟨p, 1, none⟩ (.slice (some ⟨g, 0, none⟩) n1 rc) = ws at *
  go_upto_region 11 with fail
  go_region
  go_wp2
  go_ret
  exact ⟨rfl, HM.out.drew⟩
set_option maxHeartbeats 4000000 in
/-- Behind all others. -/
theorem rename_end (s t : List UInt8) (h : DiskAt w base p room R rc fs) (ht : isNm t = true) (ht20 : t.length ≤ 20) (hne : s ≠ t) {k : Nat} {f : Fl} (hc : lookC fs s = (k, 0)) (hf : fs[k]? = some f) (hj : plc (fs.eraseIdx k) t = (fs.length - 1, false)) (hbase : base ≤ w.heap.size) :
    Calls Try.prog 16 #[.pointer (some ⟨p, 0, none⟩), str s, str t] w fun e w' => e = .returned (.int .i64 0) ∧ ∃ R' rc', Moved w w' base p room R fs R' rc' (fs.eraseIdx k ++ [f.named t]) := by
  have m := look_any s h
  have hlt := (List.getElem?_eq_some_iff.1 hf).1
  have hmem : f ∈ fs := List.mem_of_getElem? hf
  obtain ⟨g, rfl, hg1, hg2, hle1, hle2, _, hcell⟩ := h.at_ (by omega)
  obtain ⟨k0, k1, k2⟩ := hcell k f hf
  have c1 := h.cell1
  have hfew := h.ok.few
  have hl1 : (fs.eraseIdx k).length = fs.length - 1 := by rw [List.length_eraseIdx, if_pos hlt]
  rw [hc] at m
  have M := Lib.hid m
  have m0 := fun w => isName_any t w
  rw [ht] at m0
  have M0 := Lib.hid m0
  have MC : Hid (∀ v, Calls Try.prog 20 #[str t] v fun e w' => e = .returned (str t) ∧ Below v.heap.size v w') := Lib.hid (fun v => sclone_any t v (by omega))
  have MD : Hid (∀ v, Below w.heap.size w v → v.heap[w.heap.size]? = some (.cells #[str t, f.row, .int .i64 (f.sure : Int)] 49 (0, 0)) → Calls Try.prog 22 #[.slice (some ⟨g, 0, none⟩) fs.length rc, .int .i64 (k : Int), .int .i64 (k + 1 : Nat)] v fun e w4 => e = .returned (.slice (some ⟨g, 0, none⟩) (fs.length - 1) rc) ∧
      (w4.cell? ⟨p, 1, none⟩ = some (.slice (some ⟨g, 0, none⟩) fs.length rc) ∧ w4.frozen? ⟨p, 1, none⟩ = false ∧ Moved w (w4.setCell ⟨p, 1, none⟩ (.slice (some ⟨g, 0, none⟩) (fs.length - 1) rc)) base p room (some ⟨g, 0, none⟩) fs (some ⟨g, 0, none⟩) rc (fs.eraseIdx k) ∧
      (w4.setCell ⟨p, 1, none⟩ (.slice (some ⟨g, 0, none⟩) (fs.length - 1) rc)).heap[w.heap.size]? = some (.cells #[str t, f.row, .int .i64 (f.sure : Int)] 49 (0, 0)) ∧ (w4.setCell ⟨p, 1, none⟩ (.slice (some ⟨g, 0, none⟩) (fs.length - 1) rc)).ownsRow base 5 1 f.row f.b.length (bytesV f.b))) := Lib.hid (fun v hv hb => by
    refine (delete_one (h.below hv).row (by omega) hlt (filesV_one fs)).mono ?_
    rintro e w4 ⟨rfl, ho, hk, _⟩
    exact ⟨rfl, ren_del h hf (Nat.le_refl _) hv hb ho hk⟩)
  have MP : Hid (∀ w5, Moved w w5 base p room (some ⟨g, 0, none⟩) fs (some ⟨g, 0, none⟩) rc (fs.eraseIdx k) → Calls Try.prog 24 #[.pointer (some ⟨p, 0, none⟩), str t] w5 fun e w' => e = .returned (.tuple #[.int .i64 ((fs.length - 1 : Nat) : Int), .bool false]) ∧ w5 = w') := Lib.hid (fun w5 hm => by
    have := placeOf_any t hm.disk
    rw [hj] at this
    exact this)
  have HX : Hid (∀ w5, Moved w w5 base p room (some ⟨g, 0, none⟩) fs (some ⟨g, 0, none⟩) rc (fs.eraseIdx k) → w5.heap[w.heap.size]? = some (.cells #[str t, f.row, .int .i64 (f.sure : Int)] 49 (0, 0)) → w5.ownsRow base 5 1 f.row f.b.length (bytesV f.b) →
      (w5.cell? ⟨p, 1, none⟩ = some (.slice (some ⟨g, 0, none⟩) (fs.length - 1) rc) ∧ w5.cell? ⟨w.heap.size, 0, none⟩ = some (str t) ∧ w5.cell? ⟨w.heap.size, 1, none⟩ = some (.slice f.A f.b.length f.cap) ∧ w5.cell? ⟨w.heap.size, 2, none⟩ = some (.int .i64 (f.sure : Int)) ∧
      (∀ v, Below w5.heap.size w5 v → v.cell? ⟨p, 1, none⟩ = some (.slice (some ⟨g, 0, none⟩) (fs.length - 1) rc)) ∧
      (∀ v, Below w5.heap.size w5 v → Calls Try.prog 19 #[.slice (some ⟨g, 0, none⟩) (fs.length - 1) rc, .int .i64 ((fs.length - 1 : Nat) : Int), .slice (some ⟨v.heap.size, 0, none⟩) 1 1] (v.alloc (.cells #[str t, .slice f.A f.b.length f.cap, .int .i64 (f.sure : Int)] 49)) fun e w6 =>
        ∃ g' rc', e = .returned (.slice (some ⟨g', 0, none⟩) (fs.length - 1 + 1) rc') ∧ w6.cell? ⟨p, 1, none⟩ = some (.slice (some ⟨g, 0, none⟩) (fs.length - 1) rc) ∧ w6.frozen? ⟨p, 1, none⟩ = false ∧ Moved w (w6.setCell ⟨p, 1, none⟩ (.slice (some ⟨g', 0, none⟩) (fs.length - 1 + 1) rc')) base p room (some ⟨g, 0, none⟩) fs (some ⟨g', 0, none⟩) rc' (fs.eraseIdx k ++ [f.named t])))) := Lib.hid (fun w5 hm hb ho => by
    have hd := hm.disk
    have c1 := hd.cell1
    rw [hl1] at c1
    have hu1 := usedOf_erase hf
    have hok : DOk room (fs.eraseIdx k ++ [f.named t]) := h.ok.renamed hf ht20 (by
        have e1 : usedOf (fs.eraseIdx k ++ [f.named t]) = usedOf (fs.eraseIdx k) + (f.named t).b.length := by simp [usedOf]
        have hn1 : (f.named t).b.length = f.b.length := rfl
        omega) (by rw [List.length_append, hl1, List.length_singleton]; omega) (fun g hg => by
      rcases List.mem_append.1 hg with hg | hg
      · exact .inr ((List.eraseIdx_sublist _ _).subset hg)
      · exact .inl (by simpa using hg))
    have hperm : (fs.eraseIdx k ++ [f.named t]).Perm (f.named t :: fs.eraseIdx k) := List.perm_append_comm
    have hpw : (fs.eraseIdx k ++ [f.named t]).Pairwise Fl.apart := by
      rw [List.pairwise_append]
      refine ⟨h.ap.sublist (List.eraseIdx_sublist _ _), by simp, fun a ha b hb => ?_⟩
      simp at hb
      subst hb
      exact ((erase_mem h.ap hf ha : Fl.apart a f ∧ Fl.apart f a)).1
    refine ⟨c1, by rw [cell_of_row _ _ 0 _ _ _ hb]; rfl, by rw [cell_of_row _ _ 1 _ _ _ hb]; rfl, by rw [cell_of_row _ _ 2 _ _ _ hb]; rfl, fun v hv => by have := (hd.below hv).cell1; rw [hl1] at this; exact this, fun v hv => ?_⟩
    have hv2 : Below w5.heap.size w5 (v.alloc (.cells #[str t, .slice f.A f.b.length f.cap, .int .i64 (f.sure : Int)] 49)) := past_alloc hv _
    have hd2 := hd.below hv2
    have hrow := hd2.row
    rw [hl1] at hrow
    have hn : ∀ j u, [str t, Value.slice f.A f.b.length f.cap, .int .i64 (f.sure : Int)][j]? = some u → (v.alloc (.cells #[str t, .slice f.A f.b.length f.cap, .int .i64 (f.sure : Int)] 49)).cell? ⟨v.heap.size, j, none⟩ = some u := fun j u hj => by
      rw [cell_of_row _ _ j _ 49 (0, 0) (heap_alloc_new v _)]
      match j with
      | 0 => exact hj
      | 1 => exact hj
      | 2 => exact hj
      | j + 3 => simp at hj
    refine (insert_end hrow (by omega) (Nat.le_trans hbase (Nat.le_trans hm.kept.size hv2.size)) hn rfl (fun u hu => by simp at hu; rcases hu with rfl | rfl | rfl <;> rfl)).mono ?_
    rintro e w6 ⟨g', rc', rfl, q2, q3, q4⟩
    have e9 : filesV (fs.eraseIdx k) ++ [str t, Value.slice f.A f.b.length f.cap, .int .i64 (f.sure : Int)] = filesV (fs.eraseIdx k ++ [f.named t]) := by rw [filesV_append]; rfl
    rw [e9, ← hl1] at q2
    obtain ⟨t1, t2, t3, t4⟩ := hd.add (f' := f.named t) hv2 hperm hpw ho hok q2 q3 q4
    rw [hl1] at t1 t3 t4
    refine ⟨g', rc', rfl, t1, t2, t3, hm.kept.trans t4 (fun q hq => .inl (by
      rcases hq with hq | hq
      · exact .inl hq
      · exact .inr (.inl hq))), fun q hq => ?_⟩
    rcases hq with q1 | q1 | ⟨x, hx, q1⟩
    · exact .inl (.inl q1)
    · injection q1 with q1
      have q1' : g' = q := q1
      rcases q4 with e | e
      · exact .inl (.inr (.inl (by rw [← q1']; exact e)))
      · have := hm.kept.size
        have := hv2.size
        exact .inr (by omega)
    · rcases List.mem_append.1 hx with hx | hx
      · exact .inl (.inr (.inr ⟨x, (List.eraseIdx_sublist _ _).subset hx, q1⟩))
      · simp at hx
        subst hx
        exact .inl (.inr (.inr ⟨f, hmem, q1⟩)))
  have HC1 : Hid (∀ v, Below w.heap.size w v → v.cell? ⟨p, 1, none⟩ = some (.slice (some ⟨g, 0, none⟩) fs.length rc)) := Lib.hid (fun v hv => (h.below hv).cell1)
  have HB2 : Hid (∀ W2, Below (w.alloc (.cells #[str f.nm, .slice f.A f.b.length f.cap, .int .i64 (f.sure : Int)] 49)).heap.size (w.alloc (.cells #[str f.nm, .slice f.A f.b.length f.cap, .int .i64 (f.sure : Int)] 49)) W2 →
      W2.cell? ⟨w.heap.size, 0, none⟩ = some (str f.nm) ∧ W2.frozen? ⟨w.heap.size, 0, none⟩ = false ∧ (W2.setCell ⟨w.heap.size, 0, none⟩ (str t)).cell? ⟨p, 1, none⟩ = some (.slice (some ⟨g, 0, none⟩) fs.length rc) ∧
      Below w.heap.size w (W2.setCell ⟨w.heap.size, 0, none⟩ (str t)) ∧ (W2.setCell ⟨w.heap.size, 0, none⟩ (str t)).heap[w.heap.size]? = some (.cells #[str t, f.row, .int .i64 (f.sure : Int)] 49 (0, 0))) := Lib.hid (fun W2 hb => by
    have b0 : W2.heap[w.heap.size]? = some (.cells #[str f.nm, .slice f.A f.b.length f.cap, .int .i64 (f.sure : Int)] 49 (0, 0)) := by
      rw [hb.block _ (by simp)]
      exact heap_alloc_new w _
    have hbw : Below w.heap.size w (W2.setCell ⟨w.heap.size, 0, none⟩ (str t)) := (past (below_box w _) hb).setCell (by exact Nat.le_refl _) _
    exact ⟨by rw [cell_of_row _ _ 0 _ _ _ b0]; rfl, frozen_of_row _ _ _ _ _ b0, HC1.out _ hbw, hbw, by rw [heap_setCell_same W2 _ 0 _ 49 _ b0]; rfl⟩)
  have hw1 : IntKind.i64.wrap ((k : Int) + 1) = ((k + 1 : Nat) : Int) := by rw [IntKind.wrap_i64]; omega
  have hkn : (k : Int) < (fs.length : Int) := by omega
  have hpF : p ≠ w.heap.size := fun e => absurd (h.lt (k := p) (.inl rfl)).2 (by omega)
  have hgF : g ≠ w.heap.size := by omega
  have hn1 : fs.length - 1 ≤ rc := by omega
  unfold maxLen at hle2
  unfold Fl.row at k1 MD HX HB2
  have hbeq : ((ByteArray.mk s.toArray).toList == (ByteArray.mk t.toArray).toList) = false := by rw [toL, toL]; simpa using hne
  clear m m0 hc hf hmem hcell hl1 hj hne ht h
  unfold str at *
  generalize ByteArray.mk s.toArray = S at *
  generalize ByteArray.mk t.toArray = T at *
  generalize ByteArray.mk f.nm.toArray = NM at *
  generalize fs.length - 1 = n1 at *
  generalize fs.length = n at *
  go_enter Try.func16, Try.ntmps16
  go_wp2_with fail
  refine (M0.out _).mono ?_
  rintro e w' ⟨rfl, rfl⟩
  go_wp2_with fail
  refine M.out.mono ?_
  rintro e w' ⟨rfl, rfl⟩
  go_wp2_with fail
  refine (MC.out _).mono ?_
  rintro e W2 ⟨rfl, hb2⟩
  obtain ⟨x0, x1, x2, x3, x4⟩ := HB2.out W2 hb2
  have X3 := Lib.hid x3
  have X4 := Lib.hid x4
  clear x3 x4 hb2 HB2 MC M M0
  go_wp2_with fail
  refine (MD.out _ X3.out X4.out).mono ?_
  rintro e w4 ⟨rfl, y0, y1, y2, y3, y4⟩
  have Y2 := Lib.hid y2
  have Y3 := Lib.hid y3
  have Y4 := Lib.hid y4
  clear y2 y3 y4 MD X3 X4
  go_wp2_with fail
  refine (MP.out _ Y2.out).mono ?_
  rintro e w5 ⟨rfl, rfl⟩
  obtain ⟨z0, z1, z2, z3, z4, z5⟩ := HX.out _ Y2.out Y3.out Y4.out
  have Z4 := Lib.hid z4
  have Z5 := Lib.hid z5
  clear z4 z5 HX MP Y2 Y3 Y4 y0 y1
  generalize w4.setCell ⟨p, 1, none⟩ (.slice (some ⟨g, 0, none⟩) n1 rc) = ws at *
  have za := Z4.out _ (past_alloc (Below.refl _ ws) (.cells #[.string T, .slice f.A f.b.length f.cap, .int .i64 (f.sure : Int)] 49))
  have Z6 : Hid (Calls Try.prog 19 #[.slice (some ⟨g, 0, none⟩) n1 rc, .int .i64 (n1 : Int), .slice (some ⟨ws.heap.size, 0, none⟩) 1 1] (ws.alloc (.cells #[.string T, .slice f.A f.b.length f.cap, .int .i64 (f.sure : Int)] 49)).drew fun e w6 =>
        ∃ g' rc', e = .returned (.slice (some ⟨g', 0, none⟩) (n1 + 1) rc') ∧ w6.cell? ⟨p, 1, none⟩ = some (.slice (some ⟨g, 0, none⟩) n1 rc) ∧ w6.frozen? ⟨p, 1, none⟩ = false ∧ Moved w (w6.setCell ⟨p, 1, none⟩ (.slice (some ⟨g', 0, none⟩) (n1 + 1) rc')) base p room (some ⟨g, 0, none⟩) fs (some ⟨g', 0, none⟩) rc' (fs.eraseIdx k ++ [f.named t])) := Lib.hid (Z5.out ws.drew (below_drewN ws 1))
  clear Z5 Z4
  go_upto_region 12 with fail
  go_region_law (go_simp; go_at_call 19; refine Z6.out.mono ?_; rintro en w6 ⟨g', rc', rfl, t1, t2, t3⟩)
  all_goals
    go_wp2
    go_ret
    exact ⟨rfl, _, _, t3⟩
end Go.Proofs.Ytofjealjecfkiaa
