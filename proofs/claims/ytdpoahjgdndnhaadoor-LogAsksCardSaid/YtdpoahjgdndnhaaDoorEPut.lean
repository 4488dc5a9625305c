/-
  Put: an entry as bytes, of every entry; nothing that was there is written.
-/
import Derived.Test.YtdpoahjgdndnhaaDoorEByte
import Derived.Test.YtdpoahjgdndnhaaDoorEMay
import Derived.Lib.AppendStr
set_option maxRecDepth 100000
namespace Go.Proofs.YtdpoahjgdndnhaaDoor
open Go.RowKit
attribute [local go_sem ↓] Go.wp_at_zero Go.wp_at_succ
set_option linter.unusedVariables false

def PutEPost (bs : List Nat) (c : Int) (w : World) (en : Ending) (w' : World) : Prop :=
  ∃ (A : Option Addr) (cap : Nat), en = .returned (.tuple #[.slice A bs.length cap, .int .i64 c]) ∧ BRow w' A bs.length cap bs ∧ Below w.heap.size w w' ∧ ∀ ad, A = some ad → w.heap.size ≤ ad.block

theorem put_not (e : Ent) (w : World) (he : e.ok) (hw : Nam w) (hn : 0 < w.heap.size) (h : ¬ e.may) : Calls Tryd.prog 14 #[e.val] w (PutEPost [] 1 w) := by
  have HU : Hid (∀ u, Below w.heap.size w u → Nam u ∧ 0 < u.heap.size) := Lib.hid (fun u hu => ⟨hw.below hn hu, Nat.lt_of_lt_of_le hn hu.size⟩)
  have HB := Lib.hid (EBox.new w e)
  have hb : Below w.heap.size w (w.alloc (.cells #[.int .i64 e.kd, .int .i64 e.vw, .int .i64 e.id, .int .i64 e.tr, .int .i64 e.fr, .int .i64 e.tl, .int .u32 e.sm, .string ⟨e.tx.toArray⟩] 25)) := past_alloc (Below.refl _ _) _
  have M1 := Lib.hid (may_ent e _ he (HU.out _ hb).1 (HU.out _ hb).2)
  rw [decide_eq_false h] at M1
  have HBB := Lib.hid hb
  clear hb he hw h
  unfold Ent.val str at M1 ⊢
  obtain ⟨kd, vw, id, tr, fr, tl, sm, tx⟩ := e
  simp only at *
  go_enter Tryd.func14, Tryd.ntmps14
  go_wp2_with fail
  refine M1.out.mono ?_
  rintro en w2 ⟨rfl, hb2⟩
  have HB2 := Lib.hid (past HBB.out hb2)
  clear hb2 M1
  go_wp2
  go_ret2
  exact ⟨none, 0, rfl, BRow.none _, HB2.out, fun ad e => by cases e⟩

theorem wrap8 {k : Nat} (h : k < 256) : IntKind.u8.wrap (k : Int) = (k : Int) := by
  simp [IntKind.wrap, IntKind.bits, IntKind.signed]; omega
theorem wrap64u {k : Nat} (h : k < 18446744073709551616) : IntKind.u64.wrap (k : Int) = (k : Int) := by
  simp [IntKind.wrap, IntKind.bits, IntKind.signed]; omega

/-- Bytes so far, in a row of the call's own; the entry's box reads as it did. -/
structure PS (w W : World) (gE base g cap : Nat) (D : List Nat) (C : Nat → Option Value) : Prop where
  own : ownB W base g cap D
  below : Below w.heap.size w W
  lo : gE < base
  ge : w.heap.size ≤ base
  le : base ≤ W.heap.size
  cell : ∀ i v, C i = some v → W.cell? ⟨gE, i, none⟩ = some v
theorem PS.grown {w W W' : World} {gE base g cap g' cap' : Nat} {D D' : List Nat} {C : Nat → Option Value} (h : PS w W gE base g cap D C) (hg : W.grownBy W' (some g)) (ho : ownB W' base g' cap' D') : PS w W' gE base g' cap' D' C := by
  have hgb : base ≤ g := by have := h.own; unfold ownB at this; exact (this.lt g rfl).1
  have hb : Below base W W' := (Below.refl _ _).grown hg h.le (fun k e => by cases e; exact hgb)
  exact ⟨ho, h.below.grown hg (Nat.le_trans h.ge h.le) (fun k e => by cases e; exact Nat.le_trans h.ge hgb), h.lo, h.ge, Nat.le_trans h.le hg.size, fun i v hv => by rw [hb.cell h.lo]; exact h.cell i v hv⟩
theorem PS.on {w W W' : World} {gE base g cap : Nat} {D : List Nat} {C : Nat → Option Value} (h : PS w W gE base g cap D C) (hb : Below W.heap.size W W') : PS w W' gE base g cap D C := by
  refine h.grown (grown_of hb _) ?_
  have := h.own
  unfold ownB at *
  exact this.kept (row := none) (grown_of hb none) (Or.inr (by simp [Value.ownBlock]))
theorem cells_nums {ns : List Nat} (W : World) : ∀ j, j < ns.length → (W.alloc (.cells (ns.map fun n : Nat => Value.int .u64 (n : Int)).toArray 66)).cell? ⟨W.heap.size, j, none⟩ = some (.int .u64 ((ns.getD j 0 : Nat) : Int)) := by
  intro j hj
  have h := heap_alloc_new W (.cells (ns.map fun n : Nat => Value.int .u64 (n : Int)).toArray 66)
  unfold World.cell?
  rw [h]
  simp [hj, List.getD_eq_getElem?_getD]
theorem PS.add {w W : World} {gE base g cap : Nat} {D : List Nat} {C : Nat → Option Value} (h : PS w W gE base g cap D C) (ns : List Nat) (hns : ∀ n ∈ ns, n < 18446744073709551616) (h0 : 0 < ns.length) (h8 : ns.length ≤ 8) (hD : D.length ≤ 5000) :
    Calls Tryd.prog 39 #[.slice (some ⟨g, 0, none⟩) D.length cap, .slice (some ⟨W.heap.size, 0, none⟩) ns.length ns.length] (W.alloc (.cells (ns.map fun n : Nat => Value.int .u64 (n : Int)).toArray 66)) fun e w' =>
      ∃ g' cap', e = .returned (.slice (some ⟨g', 0, none⟩) (D ++ numsB ns).length cap') ∧ PS w w' gE base g' cap' (D ++ numsB ns) C := by
  have h1 := h.on (W' := W.alloc (.cells (ns.map fun n : Nat => Value.int .u64 (n : Int)).toArray 66)) (below_box _ _)
  have hgl : g < W.heap.size := by have := h.own; unfold ownB at this; exact (this.lt g rfl).2
  refine (add_any base g cap D W.heap.size ns.length ns _ h1.own hns (cells_nums W) (Nat.ne_of_gt hgl) h0 h8 hD h1.le (Nat.le_refl _)).mono ?_
  rintro e w' ⟨g', cap', he, ho, hg, hat⟩
  exact ⟨g', cap', he, h1.grown hg ho⟩
theorem PS.done {w W : World} {gE base g cap : Nat} {D : List Nat} {C : Nat → Option Value} (h : PS w W gE base g cap D C) (hD : ∀ c ∈ D, c < 256) : PutEPost D 0 w (.returned (.tuple #[.slice (some ⟨g, 0, none⟩) D.length cap, .int .i64 0])) W := by
  have ho := h.own
  unfold ownB at ho
  obtain ⟨s1, s2, s3, s4, s5, s6⟩ := Bytes.own ho hD
  exact ⟨_, cap, rfl, ⟨s1, s2, s3, s4, fun e => by cases e⟩, h.below, fun ad e => by cases e; exact Nat.le_trans h.ge (ho.lt g rfl).1⟩

theorem bytes_lt (e : Ent) (h : 0 ≤ e.kd ∧ e.kd ≤ 4) : ∀ c ∈ e.bytes, c < 256 := by
  intro c hc
  unfold Ent.bytes at hc
  rcases List.mem_cons.1 hc with rfl | hc
  · omega
  · rcases List.mem_append.1 hc with hc | hc
    · unfold numsB at hc
      obtain ⟨n, _, hn⟩ := List.mem_flatMap.1 hc
      exact enc_byte n c hn
    · unfold textB at hc
      obtain ⟨u, _, rfl⟩ := List.mem_map.1 hc
      exact u.toNat_lt
theorem strCells_text (l : List UInt8) : Lib.strCells ⟨l.toArray⟩ = bytesV (textB l) := by
  unfold Lib.strCells bytesV textB
  simp

set_option maxHeartbeats 4000000 in
theorem put_may (kd : Int) (V : Nat) (id tr fr tl sm : Int) (tx : List UInt8) (w : World) (he : Ent.ok ⟨kd, V, id, tr, fr, tl, sm, tx⟩) (hw : Nam w) (hn : 0 < w.heap.size) (h : Ent.may ⟨kd, V, id, tr, fr, tl, sm, tx⟩) :
    Calls Tryd.prog 14 #[Ent.val ⟨kd, V, id, tr, fr, tl, sm, tx⟩] w (PutEPost (Ent.bytes ⟨kd, V, id, tr, fr, tl, sm, tx⟩) 0 w) := by
  have HU : Hid (∀ u, Below w.heap.size w u → Nam u ∧ 0 < u.heap.size) := Lib.hid (fun u hu => ⟨hw.below hn hu, Nat.lt_of_lt_of_le hn hu.size⟩)
  have hk : 1 ≤ kd ∧ kd ≤ 4 := by
    have hs := h.2.2
    unfold Ent.says at hs
    simp only at hs
    split at hs
    · omega
    · split at hs
      · omega
      · split at hs
        · omega
        · split at hs
          · omega
          · exact hs.elim
  have hv : V ≤ 1073741824 := by have := h.1.2; simp only at this; omega
  have HMAY := Lib.hid h
  have HOK := Lib.hid he
  have HB := Lib.hid (EBox.new w ⟨kd, V, id, tr, fr, tl, sm, tx⟩)
  simp only at HB
  obtain ⟨W1, hW1⟩ : ∃ W1, W1 = w.alloc (.cells #[.int .i64 kd, .int .i64 V, .int .i64 id, .int .i64 tr, .int .i64 fr, .int .i64 tl, .int .u32 sm, .string ⟨tx.toArray⟩] 25) := ⟨_, rfl⟩
  rw [← hW1] at HB
  have hb1 : Below w.heap.size w W1 := by rw [hW1]; exact past_alloc (Below.refl _ _) _
  have M1 := Lib.hid (may_ent _ W1 he (HU.out _ hb1).1 (HU.out _ hb1).2)
  rw [decide_eq_true h] at M1
  have HB1 := Lib.hid hb1
  have HW1 := Lib.hid hW1
  have hwk : IntKind.u8.wrap kd = kd := by
    have := wrap8 (k := kd.toNat) (by omega)
    rwa [show (kd.toNat : Int) = kd by omega] at this
  have hkn : (kd.toNat : Int) = kd := by omega
  have hwv := wrap64u (k := V) (by omega)
  have hV64 : V < 18446744073709551616 := by omega
  have hle : w.heap.size < W1.heap.size := by rw [hW1]; simp
  clear hb1 he hw h hW1
  unfold Ent.val str at M1 ⊢
  simp only at M1
  go_enter Tryd.func14, Tryd.ntmps14
  go_upto_region 1 with fail
  rw [← HW1.out]
  obtain ⟨c0, c1, c2, c3, c4, c5, c6, c7⟩ := HB.out
  have d0 := c0 ⟨W1, Below.refl _ _⟩
  have d1 := c1 ⟨W1, Below.refl _ _⟩
  have d2 := c2 ⟨W1, Below.refl _ _⟩
  have d3 := c3 ⟨W1, Below.refl _ _⟩
  have d4 := c4 ⟨W1, Below.refl _ _⟩
  have d5 := c5 ⟨W1, Below.refl _ _⟩
  have d6 := c6 ⟨W1, Below.refl _ _⟩
  have d7 := c7 ⟨W1, Below.refl _ _⟩
  simp only [SubB.w] at d0 d1 d2 d3 d4 d5 d6 d7
  go_wp2_with fail
  refine M1.out.mono ?_
  rintro en W2 ⟨rfl, hb2⟩
  have HC : Hid (∀ i v, W1.cell? ⟨w.heap.size, i, none⟩ = some v → W2.cell? ⟨w.heap.size, i, none⟩ = some v) := Lib.hid (fun i v hv => by rw [hb2.cell hle]; exact hv)
  have e0 := HC.out _ _ d0
  have e1 := HC.out _ _ d1
  have hl2 : w.heap.size < W2.heap.size := Nat.lt_of_lt_of_le hle hb2.size
  have HB2 := Lib.hid (past HB1.out hb2)
  clear c0 c1 c2 c3 c4 c5 c6 c7 M1 hb2
  have hx1 : w.heap.size ≠ W2.heap.size := Nat.ne_of_lt hl2
  have hP2 : PS w (W2.alloc (.cells #[.int .u8 kd] 5)) w.heap.size W2.heap.size W2.heap.size 1 [kd.toNat] (fun i => W1.cell? ⟨w.heap.size, i, none⟩) := by
    refine ⟨?_, past_alloc HB2.out _, hl2, Nat.le_of_lt hl2, by simp, fun i v hv => ?_⟩
    · have ho := World.ownsRow_lit (size := 1) W2 #[Value.int .u8 kd] 1 (Nat.le_refl _) (by unfold maxLen; omega) rfl (e := 5) (base := W2.heap.size)
      unfold ownB bytesV
      simp only [List.map_cons, List.map_nil, hkn]
      exact ho
    · rw [(below_box W2 (.cells #[.int .u8 kd] 5)).cell hl2]; exact HC.out i v hv
  have M2 := Lib.hid (hP2.add [V] (fun n hn => by simp at hn; omega) (by simp) (by simp) (by simp))
  simp only [World.size_alloc] at M2
  clear hP2
  go_wp2_with fail
  refine M2.out.mono ?_
  rintro en W3 ⟨g3, cap3, rfl, hP3⟩
  clear M2 e0 e1 hx1
  have HP3 := Lib.hid hP3
  have hl3 : ([kd.toNat] ++ numsB [V]).length ≤ 11 := by
    have := numsB_len [V] (fun n hn => by simp at hn; omega)
    simp only [List.length_append, List.length_cons, List.length_nil] at *
    omega
  have HL3 := Lib.hid hl3
  have p0 := hP3.cell 0 _ d0
  have HD7 := Lib.hid d7
  have hEL := hP3.lo
  have hle3 := hP3.le
  clear hP3
  have HKN := Lib.hid hkn
  clear hkn
  by_cases k1 : kd = 1
  · subst k1
    have hm := HMAY.out
    have hs := hm.2.2
    unfold Ent.says at hs
    rw [if_pos rfl] at hs
    simp only [idOk] at hs
    have hsm : 0 ≤ sm ∧ sm ≤ 4294967295 := HOK.out.2.2.2.2.2.2.1
    obtain ⟨I, rfl⟩ : ∃ I : Nat, id = I := ⟨id.toNat, by omega⟩
    obtain ⟨T, rfl⟩ : ∃ I : Nat, tr = I := ⟨tr.toNat, by omega⟩
    obtain ⟨F, rfl⟩ : ∃ I : Nat, fr = I := ⟨fr.toNat, by omega⟩
    obtain ⟨L, rfl⟩ : ∃ I : Nat, tl = I := ⟨tl.toNat, by omega⟩
    obtain ⟨S, rfl⟩ : ∃ I : Nat, sm = I := ⟨sm.toNat, by omega⟩
    have w1 := wrap64u (k := I) (by omega)
    have w2 := wrap64u (k := T) (by omega)
    have w3 := wrap64u (k := F) (by omega)
    have w4 := wrap64u (k := L) (by omega)
    have w5 := wrap64u (k := S) (by omega)
    have p2 := HP3.out.cell 2 _ d2
    have p3 := HP3.out.cell 3 _ d3
    have p4 := HP3.out.cell 4 _ d4
    have p5 := HP3.out.cell 5 _ d5
    have p6 := HP3.out.cell 6 _ d6
    have M3 := Lib.hid (HP3.out.add [I, T, F, L, S] (fun n hn => by simp at hn; omega) (by simp) (by simp) (by omega))
    have HBY : Hid (Ent.bytes ⟨1, (V : Int), (I : Int), (T : Int), (F : Int), (L : Int), (S : Int), tx⟩ = ([Int.toNat 1] ++ numsB [V]) ++ numsB [I, T, F, L, S]) := Lib.hid (by
      unfold Ent.bytes Ent.nums textB
      simp [numsB])
    have HBL := Lib.hid (bytes_lt ⟨1, (V : Int), (I : Int), (T : Int), (F : Int), (L : Int), (S : Int), tx⟩ (by simp))
    rw [HBY.out] at HBL
    generalize ([Int.toNat 1] ++ numsB [V]).length = L3 at *
    clear hm hs hsm d0 d1 d2 d3 d4 d5 d6 d7 hl3
    go_wp2_with fail
    refine M3.out.mono ?_
    rintro en W4 ⟨g4, cap4, rfl, hP4⟩
    have HF := Lib.hid (hP4.done HBL.out)
    generalize (([Int.toNat 1] ++ numsB [V]) ++ numsB [I, T, F, L, S]).length = L4 at *
    clear hP4 M3 p0 p2 p3 p4 p5 p6
    go_wp2
    go_ret2
    rw [HBY.out]
    exact HF.out
  by_cases k2 : kd = 2
  · clear k1
    subst k2
    have hm := HMAY.out
    have hs := hm.2.2
    unfold Ent.says at hs
    rw [if_neg (by simp), if_pos rfl] at hs
    simp only [idOk] at hs
    obtain ⟨I, rfl⟩ : ∃ I : Nat, id = I := ⟨id.toNat, by omega⟩
    have w1 := wrap64u (k := I) (by omega)
    have p2 := HP3.out.cell 2 _ d2
    have M3 := Lib.hid (HP3.out.add [I] (fun n hn => by simp at hn; omega) (by simp) (by simp) (by omega))
    have HBY : Hid (Ent.bytes ⟨2, (V : Int), (I : Int), tr, fr, tl, sm, tx⟩ = ([Int.toNat 2] ++ numsB [V]) ++ numsB [I]) := Lib.hid (by
      unfold Ent.bytes Ent.nums textB
      simp [numsB])
    have HBL := Lib.hid (bytes_lt ⟨2, (V : Int), (I : Int), tr, fr, tl, sm, tx⟩ (by simp))
    rw [HBY.out] at HBL
    generalize ([Int.toNat 2] ++ numsB [V]).length = L3 at *
    clear hm hs d0 d1 d2 d3 d4 d5 d6 d7 hl3
    go_wp2_with fail
    refine M3.out.mono ?_
    rintro en W4 ⟨g4, cap4, rfl, hP4⟩
    have HF := Lib.hid (hP4.done HBL.out)
    generalize (([Int.toNat 2] ++ numsB [V]) ++ numsB [I]).length = L4 at *
    clear hP4 M3 p0 p2
    go_wp2
    go_ret2
    rw [HBY.out]
    exact HF.out
  by_cases k3 : kd = 3
  · clear k1 k2
    subst k3
    have HBY : Hid (Ent.bytes ⟨3, (V : Int), id, tr, fr, tl, sm, tx⟩ = [Int.toNat 3] ++ numsB [V]) := Lib.hid (by
      unfold Ent.bytes Ent.nums textB
      simp [numsB])
    have HBL := Lib.hid (bytes_lt ⟨3, (V : Int), id, tr, fr, tl, sm, tx⟩ (by simp))
    rw [HBY.out] at HBL
    have HF := Lib.hid (HP3.out.done HBL.out)
    generalize ([Int.toNat 3] ++ numsB [V]).length = L3 at *
    clear d0 d1 d2 d3 d4 d5 d6 d7 hl3
    go_wp2
    go_ret2
    rw [HBY.out]
    exact HF.out
  · obtain rfl : kd = 4 := by omega
    clear k1 k2 k3
    have hm := HMAY.out
    have hs := hm.2.2
    unfold Ent.says at hs
    rw [if_neg (by simp), if_neg (by simp), if_neg (by simp), if_pos rfl] at hs
    have htl : tx.length ≤ 300 := hs.1
    have w1 := wrap64u (k := tx.length) (by omega)
    have p7 := HP3.out.cell 7 _ d7
    have hsz : (⟨tx.toArray⟩ : ByteArray).size = tx.length := rfl
    have M3 := Lib.hid (HP3.out.add [tx.length] (fun n hn => by simp at hn; omega) (by simp) (by simp) (by omega))
    have HBY : Hid (Ent.bytes ⟨4, (V : Int), id, tr, fr, tl, sm, tx⟩ = (([Int.toNat 4] ++ numsB [V]) ++ numsB [tx.length]) ++ textB tx) := Lib.hid (by
      unfold Ent.bytes Ent.nums textB
      simp [numsB])
    have HBL := Lib.hid (bytes_lt ⟨4, (V : Int), id, tr, fr, tl, sm, tx⟩ (by simp))
    rw [HBY.out] at HBL
    have hl4 : (([Int.toNat 4] ++ numsB [V]) ++ numsB [tx.length]).length ≤ 21 := by
      have := numsB_len [tx.length] (fun n hn => by simp at hn; omega)
      simp only [List.length_append, List.length_cons, List.length_nil] at *
      omega
    have HTL : Hid ((textB tx).length = tx.length) := Lib.hid (by simp [textB])
    generalize ([Int.toNat 4] ++ numsB [V]).length = L3 at *
    obtain ⟨i0, hi0, hz0, hz1, hz2⟩ := info_parts Tryd.info5
    clear hm hs d0 d1 d2 d3 d4 d5 d6 d7 hl3
    go_wp2_with fail
    refine M3.out.mono ?_
    rintro en W4 ⟨g4, cap4, rfl, hP4⟩
    have HP4 := Lib.hid hP4
    have HL4 := Lib.hid hl4
    have q7 := HP4.out.cell 7 _ (by first | assumption | exact HD7.out)
    have hle4 := hP4.le
    have HOWN : Hid (W4.ownsRow W2.heap.size 5 1 (.slice (some ⟨g4, 0, none⟩) ((([Int.toNat 4] ++ numsB [V]) ++ numsB [tx.length]).length) cap4) ((([Int.toNat 4] ++ numsB [V]) ++ numsB [tx.length]).length) (bytesV (([Int.toNat 4] ++ numsB [V]) ++ numsB [tx.length]))) := Lib.hid hP4.own
    have HNEXT : Hid (∀ v' W5, W5.ownsRow W2.heap.size 5 1 v' ((([Int.toNat 4] ++ numsB [V]) ++ numsB [tx.length]).length + tx.length) (bytesV (([Int.toNat 4] ++ numsB [V]) ++ numsB [tx.length]) ++ Lib.strCells ⟨tx.toArray⟩) → W4.grownBy W5 (some g4) → PutEPost ((([Int.toNat 4] ++ numsB [V]) ++ numsB [tx.length]) ++ textB tx) 0 w (.returned (.tuple #[v', .int .i64 0])) W5) := Lib.hid (fun v' W5 ho hg => by
      have hlen : ((([Int.toNat 4] ++ numsB [V]) ++ numsB [tx.length]) ++ textB tx).length = (([Int.toNat 4] ++ numsB [V]) ++ numsB [tx.length]).length + tx.length := by rw [List.length_append, HTL.out]
      rw [strCells_text, ← bytesV_append, ← hlen] at ho
      have h0 : 0 < ((([Int.toNat 4] ++ numsB [V]) ++ numsB [tx.length]) ++ textB tx).length := by simp
      rcases ho.2 with ⟨_, hz⟩ | ⟨g5, cap5, cur, rfl, r⟩
      · omega
      · exact (HP4.out.grown hg (g' := g5) (cap' := cap5) ho).done HBL.out)
    generalize hLX : (([Int.toNat 4] ++ numsB [V]) ++ numsB [tx.length]).length = L4 at *
    clear hP4 M3 p0 p7 hLX
    go_wp2_with (at_builtin; refine Lib.wpList_append_own_string _ rfl _ _ 26 9 rfl W2.heap.size 5 i0 Tryd.underlying26 Tryd.underlying9 hi0 hz0 hz1 hz2 _ L4 _ rfl HOWN.out ⟨tx.toArray⟩ rfl (by rw [hsz]; unfold maxLen; omega) (by rw [hsz]; omega) hle4 ?_)
    intro v5 W5 ho5 hg5 _
    have HF := Lib.hid (HNEXT.out v5 W5 ho5 hg5)
    clear ho5 hg5 HNEXT HOWN
    go_wp2
    go_ret2
    rw [HBY.out]
    exact HF.out

/-- Put, of every entry. -/
theorem put_ent (e : Ent) (w : World) (he : e.ok) (hw : Nam w) (hn : 0 < w.heap.size) : Calls Tryd.prog 14 #[e.val] w (PutEPost e.put.1 e.put.2 w) := by
  by_cases h : e.may
  · unfold Ent.put
    rw [if_pos h]
    obtain ⟨kd, vw, id, tr, fr, tl, sm, tx⟩ := e
    obtain ⟨V, rfl⟩ : ∃ V : Nat, vw = V := ⟨vw.toNat, by have := h.1.1; simp only at this; omega⟩
    exact put_may kd V id tr fr tl sm tx w he hw hn h
  · unfold Ent.put
    rw [if_neg h]
    exact put_not e w he hw hn h
end Go.Proofs.YtdpoahjgdndnhaaDoor
