/-
  disk's New; strings.Clone: what each gives; nothing that was there is written.
-/
import Derived.Test.YtofjealjecfkiaaFCrash
import Derived.Lib.BufferWrite
import Derived.Laws.MakeOwn
set_option maxRecDepth 100000
namespace Go.Proofs.Ytofjealjecfkiaa
open Go.RowKit
attribute [local go_sem ↓] Go.wp_at_zero Go.wp_at_succ
set_option linter.unusedVariables false

theorem dok_new {room : Nat} (h : room ≤ 1048576) : DOk room [] := ⟨h, by simp, by simp, by simp, by simp, by simp⟩
theorem new_some (room : Nat) (w : World) (h : room ≤ 1048576) {base : Nat} (hb : base ≤ w.heap.size) :
    Calls Try.prog 7 #[.int .i64 (room : Int)] w fun e w' => e = .returned (.pointer (some ⟨w.heap.size, 0, none⟩)) ∧ DiskAt w' base w.heap.size room none 0 [] ∧ Below w.heap.size w w' ∧ w'.heap.size = w.heap.size + 1 := by
  have HD : Hid (DiskAt (w.alloc (.cells #[.int .i64 (room : Int), .slice none 0 0] 44)) base w.heap.size room none 0 []) := Lib.hid
    ⟨hb, heap_alloc_new w _, World.ownsRow_nil _ _ _ _, by simp, by simp, dok_new h⟩
  have h1 : ¬ (room : Int) < 0 := by omega
  have h2 : ¬ (1048576 : Int) < (room : Int) := by omega
  clear h
  go_enter Try.func7, Try.ntmps7
  go_wp2
  go_ret
  exact ⟨rfl, HD.out, below_box _ _, by simp⟩
theorem new_none (room : Int) (w : World) (h : room < 0 ∨ 1048576 < room) : Calls Try.prog 7 #[.int .i64 room] w fun e w' => e = .returned (.pointer none) ∧ w = w' := by
  by_cases h1 : room < 0
  · go_enter Try.func7, Try.ntmps7
    go_wp2
    go_ret
    exact ⟨rfl, rfl⟩
  · have h2 : 1048576 < room := by omega
    go_enter Try.func7, Try.ntmps7
    go_wp2
    go_ret
    exact ⟨rfl, rfl⟩

set_option maxHeartbeats 1000000 in
theorem slclone_any (l : List UInt8) (w : World) (hlim : l.length ≤ 1000000) : Calls Try.prog 27 #[str l] w fun e w' => e = .returned (str l) ∧ Below w.heap.size w w' := by
  unfold str
  have hsz : (ByteArray.mk l.toArray).size = l.length := by simp [ByteArray.size]
  obtain ⟨s, hs⟩ : ∃ s, s = ByteArray.mk l.toArray := ⟨_, rfl⟩
  have hdl : s.data.toList = l := by rw [hs]
  rw [← hs] at hsz ⊢
  by_cases h0 : l.length = 0
  · have e : s = ⟨#[]⟩ := by
      rw [hs]
      rw [List.eq_nil_of_length_eq_zero h0]
    subst e
    clear hs hdl hsz
    go_enter Try.func27, Try.ntmps27
    go_wp2
    go_ret
    exact ⟨rfl, Below.refl _ _⟩
  · obtain ⟨i0, hi, hz0, hz1, hz2⟩ := info_parts Try.info5
    obtain ⟨n, hn⟩ : ∃ n, n = s.size := ⟨_, rfl⟩
    obtain ⟨M, hM⟩ : ∃ M, M = madeCells (Value.int .u8 0).cells (((n : Nat) : Int).toNat * i0.size) := ⟨_, rfl⟩
    have hMs : M.size = n := by rw [hM, size_madeCells, hz1]; simp
    have hmk : ∀ W : World, (Instr.makeSlice 22 (.int .i64 (n : Int)) (.int .i64 (n : Int))).run Try.prog W = .ok (.slice (some ⟨W.heap.size, 0, none⟩) n n) (W.alloc (.cells M 5)) := fun W => by
      have q := run_make (P := Try.prog) W 22 5 i0 (.int .u8 0) Try.underlying22 hi hz0 .i64 .i64 (n : Int) (n : Int) (by omega) (by omega) (by rw [hz2]; omega) (by omega)
      rw [← hM] at q
      simpa using q
    obtain ⟨w1, hw1⟩ : ∃ w1, w1 = w.alloc (.cells M 5) := ⟨_, rfl⟩
    have hg1 : w1.heap[w.heap.size]? = some (.cells M 5 (0, 0)) := by rw [hw1]; exact heap_alloc_new w _
    have hb1 : Below w.heap.size w w1 := by rw [hw1]; exact below_box _ _
    have hcp := fun ty => Lib.run_copy_row_string (P := Try.prog) w1 22 9 ty 5 w.heap.size 0 n n s M 5 Try.underlying22 (by rw [hi]; simp [hz1]) hg1 (by omega) (by omega)
    obtain ⟨Y, hY⟩ : ∃ Y, Y = (M.toList.take 0 ++ Lib.byteCells s.data.toList ++ M.toList.drop (0 + s.size)).toArray := ⟨_, rfl⟩
    rw [← hY] at hcp
    have hYl : Y.toList = Lib.byteCells l := by
      rw [hY, List.toList_toArray, List.take_zero, List.nil_append, List.drop_of_length_le (by rw [Array.length_toList]; omega), List.append_nil, hdl]
    have hYs : Y.size = n := by rw [← Array.length_toList, hYl, Lib.byteCells_length, ← hsz, hn]
    obtain ⟨w2, hw2⟩ : ∃ w2, w2 = w1.setRow w.heap.size Y := ⟨_, rfl⟩
    have hg2 : w2.heap[w.heap.size]? = some (.cells Y 5 (0, 0)) := by rw [hw2]; exact setRow_heap _ _ M _ 5 (0, 0) hg1
    have hb2 : Below w.heap.size w w2 := by
      rw [hw2]
      exact hb1.trans ⟨rfl, rfl, rfl, by simp, fun k hk => setRow_other _ _ _ _ (by omega)⟩
    have hus := fun ty => Lib.run_unsafeString_row (P := Try.prog) w2 59 3 ty 5 Try.underlying59 (by simp [Program.cellsOf, hi, hz1]) w.heap.size Y.size (by unfold World.shape?; rw [hg2]) l (fun e => h0 (by rw [e]; rfl)) (by omega) (by omega)
      (fun j x hx => by
        rw [addr0, cell_of_row w2 _ _ _ _ _ hg2, ← Array.getElem?_toList, hYl]
        simp [Lib.byteCells, hx])
    rw [hw2] at hus
    rw [← hw2] at hus
    have hlen : l.length = n := by omega
    rw [hlen, ← hs] at hus
    have HB : Hid (Below w.heap.size w (w2.freeze ⟨w.heap.size, 0, none⟩ n)) := Lib.hid (Lib.below_freeze hb2 (p := ⟨w.heap.size, 0, none⟩) (Nat.le_refl _) _)
    rw [← hn] at hcp
    rw [← hw2] at hcp
    have hn0 : ¬ (n : Int) = 0 := by omega
    have hn1 : 0 < n := by omega
    have hsn : s.size = n := hn.symm
    clear hlim hsz h0 hw2 hg2 hb2 hYl hYs hY hg1 hb1 hM hMs hdl hs hlen hi hz0 hz1 hz2 hn
    subst hw1
    go_enter Try.func27, Try.ntmps27
    go_wp2
    go_ret
    exact ⟨rfl, HB.out⟩
theorem sclone_any (l : List UInt8) (w : World) (hlim : l.length ≤ 1000000) : Calls Try.prog 20 #[str l] w fun e w' => e = .returned (str l) ∧ Below w.heap.size w w' := by
  have M := Lib.hid (slclone_any l w hlim)
  go_enter Try.func20, Try.ntmps20
  go_wp2_with fail
  refine M.out.mono ?_
  rintro e w' ⟨rfl, hb⟩
  have HB := Lib.hid hb
  clear hb
  go_wp2
  go_ret
  exact ⟨rfl, HB.out⟩
end Go.Proofs.Ytofjealjecfkiaa
