/-
  disk's Sync and Cut: what each tells, and the disk that it leaves.
-/
import Derived.Test.YtofjealjecfkiaaFStore
set_option maxRecDepth 100000
namespace Go.Proofs.Ytofjealjecfkiaa
open Go.RowKit
attribute [local go_sem ↓] Go.wp_at_zero Go.wp_at_succ
set_option linter.unusedVariables false
variable {w : World} {base p room rc : Nat} {R : Option Addr} {fs : List Fl}

/-- A step that writes the row of files alone. -/
structure Stepped (w w' : World) (base p room : Nat) (R : Option Addr) (rc : Nat) (fs' : List Fl) : Prop where
  disk : DiskAt w' base p room R rc fs'
  kept : Kept w w' (rowOf R)
  size : w'.heap.size = w.heap.size

set_option maxHeartbeats 1000000 in
theorem sync_none (s : List UInt8) (h : DiskAt w base p room R rc fs) (hc : (lookC fs s).2 ≠ 0) :
    Calls Try.prog 10 #[.pointer (some ⟨p, 0, none⟩), str s] w fun e w' => e = .returned (.int .i64 ((lookC fs s).2 : Int)) ∧ w = w' := by
  have M := Lib.hid (look_any s h)
  generalize (lookC fs s).1 = a at *
  generalize (lookC fs s).2 = c at *
  have hc' : ¬ (c : Int) = 0 := by omega
  clear h hc
  go_enter Try.func10, Try.ntmps10
  go_wp2_with fail
  refine M.out.mono ?_
  rintro e w' ⟨rfl, rfl⟩
  go_wp2
  go_ret
  exact ⟨rfl, rfl⟩
theorem sync_nil (s : List UInt8) (w : World) :
    Calls Try.prog 10 #[.pointer none, str s] w fun e w' => e = .returned (.int .i64 (if isNm s then 10 else 1)) ∧ w = w' := by
  have M := Lib.hid (look_nil s w)
  obtain ⟨c, hc⟩ : ∃ c : Int, c = (if isNm s then 10 else 1) := ⟨_, rfl⟩
  have hc' : ¬ c = 0 := by rw [hc]; split <;> omega
  rw [← hc] at M ⊢
  clear hc
  go_enter Try.func10, Try.ntmps10
  go_wp2_with fail
  refine M.out.mono ?_
  rintro e w' ⟨rfl, rfl⟩
  go_wp2
  go_ret
  exact ⟨rfl, rfl⟩
set_option maxHeartbeats 1000000 in
theorem sync_there (s : List UInt8) (h : DiskAt w base p room R rc fs) {f : Fl} {k : Nat} (hc : lookC fs s = (k, 0)) (hf : fs[k]? = some f) :
    Calls Try.prog 10 #[.pointer (some ⟨p, 0, none⟩), str s] w fun e w' => e = .returned (.int .i64 0) ∧ Stepped w w' base p room R rc (fs.set k { f with sure := f.b.length }) := by
  have m := look_any s h
  have hlt := (List.getElem?_eq_some_iff.1 hf).1
  have hmem : f ∈ fs := List.mem_of_getElem? hf
  obtain ⟨g, rfl, _, _, hle1, hle2, _, hcell⟩ := h.at_ (by omega)
  obtain ⟨_, k1, k2⟩ := hcell _ f hf
  have c1 := h.cell1
  have hfew := h.ok.few
  have hfl := file_len h hmem
  have hbig := h.ok.big
  rw [hc] at m
  have M := Lib.hid m
  have fr := fun j => h.row.frozenAt j
  have HS : Hid (∀ W : World, W = (w.setCell ⟨g, k * 3 + 2, none⟩ (.int .i64 (f.b.length : Int))).drew → Stepped w W base p room (some ⟨g, 0, none⟩) rc (fs.set k { f with sure := f.b.length })) := Lib.hid (by
    rintro W rfl
    have hkd : Kept w (w.setCell ⟨g, k * 3 + 2, none⟩ (.int .i64 (f.b.length : Int))).drew (rowOf (some ⟨g, 0, none⟩)) := ⟨rfl, rfl, rfl, by simp [World.setCell], fun q hq hs => Below.heap_setCell _ _ _ _ (fun e => hs (by rw [e]; rfl))⟩
    refine ⟨h.reset hf hkd ?_ rfl (h.own f hmem) (h.ok.set hf (Nat.le_refl _) (h.ok.byte f hmem) (Nat.le_refl _) rfl), hkd, by simp [World.setCell]⟩
    have hd : w.ownsRow base 49 3 (.slice (some ⟨g, 0, none⟩) fs.length rc) fs.length (filesV fs) := h.row
    have := (hd.stored (k * 3 + 2) (.int .i64 (f.b.length : Int))).1
    rw [filesV_set fs k f { f with sure := f.b.length } hf rfl]
    change World.ownsRow _ _ _ _ _ _ (((filesV fs).set (k * 3 + 1) f.row).set (k * 3 + 2) (.int .i64 (f.b.length : Int)))
    rw [set_same (filesV_get fs k f hf).2.1]
    exact this)
  unfold maxLen at hle2
  unfold Fl.row at k1
  clear m hf hmem hcell hc
  have fr2 := fr (k * 3 + 2)
  clear fr h
  generalize fs.length = n at *
  generalize f.b.length = L at *
  generalize f.A = A at *
  generalize f.cap = cap at *
  have hk0 : (k : Int) < (n : Int) := by omega
  go_enter Try.func10, Try.ntmps10
  go_wp2_with fail
  refine M.out.mono ?_
  rintro e w' ⟨rfl, rfl⟩
  go_upto_region 3 with fail
  go_region
  go_wp2
  go_ret
  exact ⟨rfl, HS.out _ rfl⟩

set_option maxHeartbeats 1000000 in
theorem cut_none (s : List UInt8) (N : Int) (h : DiskAt w base p room R rc fs) (hc : (lookC fs s).2 ≠ 0) :
    Calls Try.prog 15 #[.pointer (some ⟨p, 0, none⟩), str s, .int .i64 N] w fun e w' => e = .returned (.int .i64 ((lookC fs s).2 : Int)) ∧ w = w' := by
  have M := Lib.hid (look_any s h)
  generalize (lookC fs s).1 = a at *
  generalize (lookC fs s).2 = c at *
  have hc' : ¬ (c : Int) = 0 := by omega
  clear h hc
  go_enter Try.func15, Try.ntmps15
  go_wp2_with fail
  refine M.out.mono ?_
  rintro e w' ⟨rfl, rfl⟩
  go_wp2
  go_ret
  exact ⟨rfl, rfl⟩
set_option maxHeartbeats 1000000 in
theorem cut_range (s : List UInt8) (N : Int) (h : DiskAt w base p room R rc fs) {f : Fl} {k : Nat} (hc : lookC fs s = (k, 0)) (hf : fs[k]? = some f) (hN : N < 0 ∨ (f.b.length : Int) < N) :
    Calls Try.prog 15 #[.pointer (some ⟨p, 0, none⟩), str s, .int .i64 N] w fun e w' => e = .returned (.int .i64 5) ∧ w = w' := by
  have m := look_any s h
  have hlt := (List.getElem?_eq_some_iff.1 hf).1
  have hmem : f ∈ fs := List.mem_of_getElem? hf
  obtain ⟨g, rfl, _, _, hle1, hle2, _, hcell⟩ := h.at_ (by omega)
  obtain ⟨_, k1, k2⟩ := hcell _ f hf
  have c1 := h.cell1
  have hfew := h.ok.few
  have hfl := file_len h hmem
  have hbig := h.ok.big
  rw [hc] at m
  have M := Lib.hid m
  unfold maxLen at hle2
  unfold Fl.row at k1
  clear m hf hmem hcell hc h
  generalize fs.length = n at *
  generalize f.b.length = L at *
  generalize f.A = A at *
  generalize f.cap = cap at *
  have hk0 : (k : Int) < (n : Int) := by omega
  by_cases hN0 : N < 0
  · clear hN
    go_enter Try.func15, Try.ntmps15
    go_wp2_with fail
    refine M.out.mono ?_
    rintro e w' ⟨rfl, rfl⟩
    go_wp2
    go_ret
    exact ⟨rfl, rfl⟩
  · have hN1 : (L : Int) < N := by omega
    clear hN
    go_enter Try.func15, Try.ntmps15
    go_wp2_with fail
    refine M.out.mono ?_
    rintro e w' ⟨rfl, rfl⟩
    go_wp2
    go_ret
    exact ⟨rfl, rfl⟩
set_option maxHeartbeats 1000000 in
theorem cut_there (s : List UInt8) (N : Nat) (h : DiskAt w base p room R rc fs) {f : Fl} {k : Nat} (hc : lookC fs s = (k, 0)) (hf : fs[k]? = some f) (hN : N ≤ f.b.length) :
    Calls Try.prog 15 #[.pointer (some ⟨p, 0, none⟩), str s, .int .i64 (N : Int)] w fun e w' => e = .returned (.int .i64 0) ∧ Stepped w w' base p room R rc (fs.set k { f with b := f.b.take N, sure := min f.sure N }) := by
  have m := look_any s h
  have hlt := (List.getElem?_eq_some_iff.1 hf).1
  have hmem : f ∈ fs := List.mem_of_getElem? hf
  obtain ⟨g, rfl, _, _, hle1, hle2, _, hcell⟩ := h.at_ (by omega)
  obtain ⟨_, k1, k2⟩ := hcell _ f hf
  have c1 := h.cell1
  have hfew := h.ok.few
  have hfl := file_len h hmem
  have hbig := h.ok.big
  have hbr := file_brow h hmem
  have hcap : f.b.length ≤ f.cap := hbr.le
  have hcap2 : f.cap ≤ maxLen := hbr.max
  rw [hc] at m
  have M := Lib.hid m
  have fr := fun j => h.row.frozenAt j
  have HS : Hid (∀ W : World, W = (w.setCell ⟨g, k * 3 + 1, none⟩ (.slice f.A N f.cap)).setCell ⟨g, k * 3 + 2, none⟩ (.int .i64 (min f.sure N : Nat)) → Stepped w W base p room (some ⟨g, 0, none⟩) rc (fs.set k { f with b := f.b.take N, sure := min f.sure N })) := Lib.hid (by
    rintro W rfl
    have hl : (f.b.take N).length = N := by rw [List.length_take]; omega
    have hkd : Kept w ((w.setCell ⟨g, k * 3 + 1, none⟩ (.slice f.A N f.cap)).setCell ⟨g, k * 3 + 2, none⟩ (.int .i64 (min f.sure N : Nat))) (rowOf (some ⟨g, 0, none⟩)) :=
      (kept_setCell w ⟨g, k * 3 + 1, none⟩ _ (S := rowOf (some ⟨g, 0, none⟩)) rfl).trans (kept_setCell _ ⟨g, k * 3 + 2, none⟩ _ (S := rowOf (some ⟨g, 0, none⟩)) rfl) (fun j hj => .inl hj)
    refine ⟨h.reset hf hkd ?_ rfl ?_ (h.ok.set hf ?_ (fun c hcc => h.ok.byte f hmem c (List.mem_of_mem_take hcc)) ?_ rfl), hkd, by simp [World.setCell]⟩
    · have s1 := (h.row.stored (k * 3 + 1) (.slice f.A N f.cap)).1
      have s2 := (s1.stored (k * 3 + 2) (.int .i64 (min f.sure N : Nat))).1
      rw [filesV_set fs k f { f with b := f.b.take N, sure := min f.sure N } hf rfl]
      unfold Fl.row
      rw [hl]
      exact s2
    · unfold Fl.row
      change World.ownsRow w base 5 1 (.slice f.A (f.b.take N).length f.cap) (f.b.take N).length (bytesV (f.b.take N))
      rw [hl]
      exact cut_own (h.own f hmem) hN
    · show (f.b.take N).length ≤ _
      rw [hl]; exact hN
    · show min f.sure N ≤ (f.b.take N).length
      rw [hl]; exact Nat.min_le_right _ _)
  unfold maxLen at hle2 hcap2
  unfold Fl.row at k1
  clear m hf hmem hcell hc hbr
  have fr1 := fr (k * 3 + 1)
  have fr2 := fr (k * 3 + 2)
  have sh := fun w => sliceB_hi (A := f.A) (n := f.b.length) (cap := f.cap) (k := N) (by omega) w
  have mn := fun ts t W => min2 ts t (f.sure : Int) (N : Int) W
  have e9 : (min (f.sure : Int) (N : Int)) = ((min f.sure N : Nat) : Int) := by omega
  rw [e9] at mn
  generalize min f.sure N = S at *
  clear fr h e9
  generalize fs.length = n at *
  generalize f.b.length = L at *
  generalize f.A = A at *
  generalize f.cap = cap at *
  have hk0 : (k : Int) < (n : Int) := by omega
  have hN0 : ¬ (N : Int) < 0 := by omega
  have hN1 : ¬ (L : Int) < (N : Int) := by omega
  go_enter Try.func15, Try.ntmps15
  go_wp2_with fail
  refine M.out.mono ?_
  rintro e w' ⟨rfl, rfl⟩
  go_wp2
  go_ret
  exact ⟨rfl, HS.out _ rfl⟩
end Go.Proofs.Ytofjealjecfkiaa
