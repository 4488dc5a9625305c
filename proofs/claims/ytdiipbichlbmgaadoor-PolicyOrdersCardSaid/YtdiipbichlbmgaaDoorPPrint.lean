/-
  Print at every policy: what it returns; nothing that was there is written.
-/
import Derived.Test.YtdiipbichlbmgaaDoorPParse
import Derived.Test.YtdiipbichlbmgaaDoorShelf
import Derived.Lib.AppendIntMem
import Derived.Lib.ItoaLen
namespace Go.Proofs.YtdiipbichlbmgaaDoor
open Go.RowKit
set_option linter.unusedVariables false

def ageText (a : Int) : List UInt8 := if a = 0 then ever else Lib.itoa a
def lineR (p : Pol) (k : Nat) : List UInt8 := [107, 101, 101, 112, 32] ++ nameAt k ++ [32] ++ ageText (p.at k) ++ [10]
def linesR (p : Pol) : Nat → List UInt8
  | 0 => []
  | k + 1 => linesR p k ++ lineR p k
/-- The text of a policy. -/
def printR (p : Pol) : List UInt8 := linesR p 4 ++ ([115, 101, 97, 108, 32] ++ Lib.itoa p.cn ++ [10]) ++ ([115, 112, 97, 110, 32] ++ Lib.itoa p.sp ++ [10])

/-- The library's table of powers. -/
def Pow (w : World) : Prop := Lib.TabIs Tryd.prog w "internal/strconv.uint64pow10" .u64 Lib.pow10Tab
theorem Pow.below {w w' : World} (h : Pow w) (hb : Below w.heap.size w w') : Pow w' := Lib.tabBelow_of_tabIs h w' hb

theorem below_growN (w : World) (n : Nat) (os : Array Obj) : Below w.heap.size w (Sort.grow (w.drewN n) os) :=
  ⟨rfl, rfl, rfl, by rw [Sort.size_grow]; exact Nat.le_add_right _ _, fun k hk => Sort.heap_grow_old (w.drewN n) os hk⟩
theorem fmt_any (n : Int) (h : In64 n) (w : World) (hT : Pow w) : Calls Tryd.prog 12 #[.int .i64 n, .int .i64 10] w fun e w' => e = .returned (str (Lib.itoa n)) ∧ Below w.heap.size w w' :=
  (Tryd.strconv_FormatInt_10 n h.1 h.2 w hT).mono (by rintro e w' ⟨rfl, k, os, rfl⟩; exact ⟨rfl, below_growN w k os⟩)
theorem itoa_any (n : Int) (h : In64 n) (w : World) (hT : Pow w) : Calls Tryd.prog 14 #[.int .i64 n] w fun e w' => e = .returned (str (Lib.itoa n)) ∧ Below w.heap.size w w' :=
  (Tryd.strconv_Itoa n h.1 h.2 w hT).mono (by rintro e w' ⟨rfl, k, os, rfl⟩; exact ⟨rfl, below_growN w k os⟩)

/-- The builder at block b holds l. -/
def Bld (w : World) (b : Nat) (l : List UInt8) : Prop := Lib.IsBuilderF 41 5 b b (Lib.byteCells l) w
theorem BuilderAtF_below {T e : TypeId} {B b : Nat} {p : Value} {bs : List Value} {w w' : World} (h : Lib.BuilderAtF T e B b p bs w) (hb : Below w.heap.size w w') : Lib.BuilderAtF T e B b p bs w' := by
  have hlt := h.lt
  obtain ⟨hB, v, hbk, hown, hne⟩ := h
  exact ⟨hB, v, (hb.block b hlt).trans hbk, hown.kept (row := none) ⟨hb.os, hb.tape, hb.output, hb.size, fun k hk _ => hb.block k hk⟩ (by cases hv : v.ownBlock <;> simp), hne⟩
theorem Bld.below {w w' : World} {b : Nat} {l : List UInt8} (h : Bld w b l) (hb : Below w.heap.size w w') : Bld w' b l :=
  h.elim (fun x => .inl (BuilderAtF_below x hb)) (fun x => .inr (BuilderAtF_below x hb))
theorem Bld.lt {w : World} {b : Nat} {l : List UInt8} (h : Bld w b l) : b < w.heap.size := h.elim (fun x => x.lt) (fun x => x.lt)
theorem write_any (b : Nat) (l : List UInt8) (s : ByteArray) (w : World) (h : Bld w b l) (hl : l.length + s.size ≤ 140737488355328) :
    Calls Tryd.prog 13 #[.pointer (some ⟨b, 0, none⟩), .string s] w fun e w' => e = .returned (.tuple #[.int .i64 s.size, .nilIface]) ∧ Bld w' b (l ++ s.data.toList) ∧ Below b w w' :=
  (Tryd.Builder_WriteString_f b b (Lib.byteCells l) s w h (by simpa [Lib.byteCells] using hl) (Nat.le_of_lt h.lt)).mono (by
    rintro e w' ⟨rfl, h1, h2⟩
    refine ⟨rfl, .inr ?_, h2⟩
    rw [Lib.strCells_eq, ← Lib.byteCells_append] at h1
    exact h1)
theorem string_any (b : Nat) (l : List UInt8) (w : World) (h : Bld w b l) :
    Calls Tryd.prog 15 #[.pointer (some ⟨b, 0, none⟩)] w fun e w' => e = .returned (str l) ∧ Below b w w' :=
  (Tryd.Builder_String_any_f b b l w h (Nat.le_of_lt h.lt)).mono (by rintro e w' ⟨rfl, _, h2⟩; exact ⟨rfl, h2⟩)

theorem nameAt_len (k : Nat) : (nameAt k).length ≤ 3 := by unfold nameAt; split <;> decide
theorem ageText_len (a : Int) (h : In64 a) : (ageText a).length ≤ 21 := by
  unfold ageText
  split
  · decide
  · exact Lib.itoa_length_le a h.1 h.2
theorem at_ok {p : Pol} (h : p.ok) (k : Nat) : In64 (p.at k) := by
  obtain ⟨h0, h1, h2, h3, h4, h5⟩ := h
  unfold Pol.at
  split <;> assumption
theorem lineR_len {p : Pol} (h : p.ok) (k : Nat) : (lineR p k).length ≤ 31 := by
  have := nameAt_len k
  have := ageText_len _ (at_ok h k)
  simp only [lineR, List.length_append, List.length_cons, List.length_nil]
  omega
theorem linesR_len {p : Pol} (h : p.ok) : ∀ k, (linesR p k).length ≤ 31 * k
  | 0 => by simp [linesR]
  | k + 1 => by
    have := lineR_len h k
    have := linesR_len h k
    rw [linesR, List.length_append]
    omega
theorem index_at (a0 a1 a2 a3 cn sp : Int) (k : Nat) (hk : k < 4) (w : World) : (Instr.index 23 (.agg #[.int .i64 a0, .int .i64 a1, .int .i64 a2, .int .i64 a3]) (.int .i64 (k : Int))).run Tryd.prog w = .ok (.int .i64 (Pol.at ⟨a0, a1, a2, a3, cn, sp⟩ k)) w :=
  match k, hk with
  | 0, _ => by kernel_rfl
  | 1, _ => by kernel_rfl
  | 2, _ => by kernel_rfl
  | 3, _ => by kernel_rfl
theorem ba_list (a b : ByteArray) : (a ++ b).data.toList = a.data.toList ++ b.data.toList := by simp
theorem ba_size (l : List UInt8) : (⟨l.toArray⟩ : ByteArray).size = l.length := by simp [ByteArray.size]
structure PrEnd (w2 wr : World) (l : List UInt8) : Prop where
  bld : Bld wr w2.heap.size l
  below : Below w2.heap.size w2 wr
theorem PrEnd.on {w2 wr w' : World} {l : List UInt8} (h : PrEnd w2 wr l) (hb : Below wr.heap.size wr w') : PrEnd w2 w' l := ⟨h.bld.below hb, h.below.trans (hb.mono h.below.size)⟩
structure PrInv (w2 wr : World) (p : Pol) (k : Nat) : Prop where
  bld : Bld wr w2.heap.size (linesR p k)
  below : Below w2.heap.size w2 wr

set_option maxRecDepth 100000 in
set_option maxHeartbeats 1000000 in
theorem print_may (p : Pol) (w : World) (hp : p.ok) (hm : p.may) (hw : Nam w) (hT : Pow w) (hn : 0 < w.heap.size) :
    Calls Tryd.prog 8 #[p.val] w fun e w' => e = .returned (.tuple #[str (printR p), .int .i64 0]) ∧ Below w.heap.size w w' := by
  have m1 := fun w => may_any p w hp
  rw [decide_eq_true hm] at m1
  obtain ⟨T, hTT⟩ : ∃ T, printR p = T := ⟨_, rfl⟩
  rw [hTT]
  have HTT := Lib.hid hTT
  have HM := Lib.hid hm
  have HP := Lib.hid hp
  have HW := Lib.hid hw
  have HT := Lib.hid hT
  clear hTT hm hp hw hT
  obtain ⟨a0, a1, a2, a3, cn, sp⟩ := p
  unfold Pol.val at *
  simp only at m1 ⊢
  have M1 := Lib.hid m1
  clear m1
  go_enter Tryd.func8, Tryd.ntmps8
  go_wp2_with fail
  refine (M1.out _).mono ?_
  rintro e w2 ⟨rfl, hb2⟩
  have hb0 : Below w.heap.size w (w.alloc (.cells #[.int .i64 a0, .int .i64 a1, .int .i64 a2, .int .i64 a3, .int .i64 cn, .int .i64 sp] 25)) := past_alloc (Below.refl _ _) _
  have HH : Hid (PHold w2 w.heap.size ⟨a0, a1, a2, a3, cn, sp⟩) := Lib.hid (PHold.below (w := w.alloc (.cells #[.int .i64 a0, .int .i64 a1, .int .i64 a2, .int .i64 a3, .int .i64 cn, .int .i64 sp] 25)) (by unfold PHold; simp) (by simp) hb2)
  have hlt2 : w.heap.size < w2.heap.size := by have := hb2.size; simp at this; omega
  have HB2 : Hid (Below w.heap.size w w2) := Lib.hid (past hb0 hb2)
  have HST : Hid (PrInv w2 (w2.alloc (.cells #[.pointer none, .slice none 0 0] 41)) ⟨a0, a1, a2, a3, cn, sp⟩ 0) := Lib.hid ⟨Lib.IsBuilderF.of (Lib.fresh_isBuilder 41 5 w2), past_alloc (Below.refl _ _) _⟩
  have HLT := Lib.hid hlt2
  clear hb0 hb2 M1
  obtain ⟨c0, c1, c2, c3, c4, c5⟩ := HH.out
  simp only at c0 c1 c2 c3 c4 c5
  go_wp2
  go_loopw [13] (fun si wr => ∃ k : Nat, k ≤ 4 ∧ si = .int .i64 (k : Int) ∧ Hid (PrInv w2 wr ⟨a0, a1, a2, a3, cn, sp⟩ k)) (fun si _ => 4 - (intOf si).toNat)
  case atStart => exact ⟨0, by decide, rfl, HST⟩
  case round =>
    obtain ⟨k, hk, rfl, HI⟩ := hrel
    clear HST c0 c1 c2 c3 c4 c5
    by_cases h4 : k < 4
    · have hk0 : (0 : Int) ≤ (k : Int) := by omega
      have hk4 : (k : Int) < 4 := by omega
      have HNR : Hid (Below w.heap.size w wr) := Lib.hid (past HB2.out HI.out.below)
      have cn0 : wr.cell? ⟨0, k, none⟩ = some (str (nameAt k)) := HW.out.below hn HNR.out k h4
      have hlen1 := nameAt_len k
      obtain ⟨a, ha⟩ : ∃ a, Pol.at ⟨a0, a1, a2, a3, cn, sp⟩ k = a := ⟨_, rfl⟩
      have ha64 : In64 a := ha ▸ at_ok HP.out k
      have ik : ∀ w, (Instr.index 23 (.agg #[.int .i64 a0, .int .i64 a1, .int .i64 a2, .int .i64 a3]) (.int .i64 (k : Int))).run Tryd.prog w = .ok (.int .i64 a) w := fun w => ha ▸ index_at a0 a1 a2 a3 cn sp k h4 w
      have M2 := Lib.hid (fmt_any a ha64 wr (HT.out.below HNR.out))
      have hlen2 := ageText_len a ha64
      have HLEN := Lib.hid (linesR_len HP.out k)
      have HNX : Hid (linesR ⟨a0, a1, a2, a3, cn, sp⟩ (k + 1) = linesR ⟨a0, a1, a2, a3, cn, sp⟩ k ++ ([107, 101, 101, 112, 32] ++ nameAt k ++ [32] ++ ageText a ++ [10])) := Lib.hid (by rw [linesR, lineR, ha])
      clear ha
      unfold str at *
      generalize nameAt k = nm at *
      by_cases h0 : a = 0
      · have h0' : (a != 0) = false := by simpa using h0
        have HTX : Hid (ageText a = [101, 118, 101, 114]) := Lib.hid (by rw [h0]; rfl)
        clear h0 M2 ha64
        go_wp2_with fail
        refine (write_any _ _ _ _ HI.out.bld (by have := HLEN.out; simp only [ByteArray.size_append, ba_size]; simp; omega)).mono ?_
        rintro e w4 ⟨rfl, hbl, hb4⟩
        have HN2 : Hid (PrInv w2 w4 ⟨a0, a1, a2, a3, cn, sp⟩ (k + 1)) := Lib.hid ⟨by rw [HNX.out, HTX.out]; simpa [ba_list] using hbl, HI.out.below.trans hb4⟩
        clear hbl hb4 HI
        go_wp2
        go_roundw
        case rel => exact ⟨k + 1, by omega, by go_num, HN2⟩
        case measure => simp [intOf]; omega
      · have h0' : (a != 0) = true := by simpa using h0
        have HTX : Hid (ageText a = Lib.itoa a) := Lib.hid (by unfold ageText; rw [if_neg h0])
        rw [HTX.out] at hlen2
        clear h0 ha64
        generalize Lib.itoa a = ds at *
        go_wp2_with fail
        refine M2.out.mono ?_
        rintro e w3 ⟨rfl, hb3⟩
        have HI3 : Hid (PrInv w2 w3 ⟨a0, a1, a2, a3, cn, sp⟩ k) := Lib.hid ⟨HI.out.bld.below hb3, HI.out.below.trans (hb3.mono HI.out.below.size)⟩
        have cn1 : w3.cell? ⟨0, k, none⟩ = some (.string ⟨nm.toArray⟩) := by rw [hb3.cell (Nat.lt_of_lt_of_le hn HNR.out.size)]; exact cn0
        clear hb3 HI cn0 HNR M2
        go_wp2_with fail
        refine (write_any _ _ _ _ HI3.out.bld (by have := HLEN.out; simp only [ByteArray.size_append, ba_size]; simp; omega)).mono ?_
        rintro e w4 ⟨rfl, hbl, hb4⟩
        have HN2 : Hid (PrInv w2 w4 ⟨a0, a1, a2, a3, cn, sp⟩ (k + 1)) := Lib.hid ⟨by rw [HNX.out, HTX.out]; simpa [ba_list] using hbl, HI3.out.below.trans hb4⟩
        clear hbl hb4 HI3
        go_wp2
        go_roundw
        case rel => exact ⟨k + 1, by omega, by go_num, HN2⟩
        case measure => simp [intOf]; omega
    · obtain rfl : k = 4 := by omega
      obtain ⟨c0, c1, c2, c3, c4, c5⟩ := HH.out.below HLT.out HI.out.below
      simp only at c0 c1 c2 c3 c4 c5
      have M2 := Lib.hid (fun w h => itoa_any cn HP.out.2.2.2.2.1 w h)
      have M3 := Lib.hid (fun w h => fmt_any sp HP.out.2.2.2.2.2 w h)
      have hl1 := Lib.itoa_length_le cn HP.out.2.2.2.2.1.1 HP.out.2.2.2.2.1.2
      have hl2 := Lib.itoa_length_le sp HP.out.2.2.2.2.2.1 HP.out.2.2.2.2.2.2
      have HLEN := Lib.hid (linesR_len HP.out 4)
      have HPR : Hid (T = linesR ⟨a0, a1, a2, a3, cn, sp⟩ 4 ++ ([115, 101, 97, 108, 32] ++ Lib.itoa cn ++ [10]) ++ ([115, 112, 97, 110, 32] ++ Lib.itoa sp ++ [10])) := Lib.hid (by rw [← HTT.out]; rfl)
      have HNR : Hid (Below w.heap.size w wr) := Lib.hid (past HB2.out HI.out.below)
      have HE : Hid (PrEnd w2 wr (linesR ⟨a0, a1, a2, a3, cn, sp⟩ 4)) := Lib.hid ⟨HI.out.bld, HI.out.below⟩
      unfold str at *
      generalize Lib.itoa cn = d1 at *
      generalize Lib.itoa sp = d2 at *
      generalize linesR ⟨a0, a1, a2, a3, cn, sp⟩ 4 = L at *
      clear HI hk h4 c0 c1 c2 c3
      go_wp2_with fail
      refine (M2.out _ (HT.out.below HNR.out)).mono ?_
      rintro e w3 ⟨rfl, hb3⟩
      have HE3 := Lib.hid (HE.out.on hb3)
      clear hb3 HE c4 c5
      go_wp2_with fail
      refine (write_any _ _ _ _ HE3.out.bld (by have := HLEN.out; simp only [ByteArray.size_append, ba_size]; simp; omega)).mono ?_
      rintro e w4 ⟨rfl, hbl, hb4⟩
      have HE4 : Hid (PrEnd w2 w4 (L ++ ([115, 101, 97, 108, 32] ++ d1 ++ [10]))) := Lib.hid ⟨by simpa [ba_list] using hbl, HE3.out.below.trans hb4⟩
      clear hbl hb4 HE3
      obtain ⟨c0, c1, c2, c3, c4, c5⟩ := HH.out.below HLT.out HE4.out.below
      simp only at c5
      clear c0 c1 c2 c3 c4
      go_wp2_with fail
      refine (M3.out _ (HT.out.below (past HB2.out HE4.out.below))).mono ?_
      rintro e w5 ⟨rfl, hb5⟩
      have HE5 := Lib.hid (HE4.out.on hb5)
      clear hb5 HE4 c5
      go_wp2_with fail
      refine (write_any _ _ _ _ HE5.out.bld (by have := HLEN.out; simp only [ByteArray.size_append, ba_size, List.length_append]; simp; omega)).mono ?_
      rintro e w6 ⟨rfl, hbl, hb6⟩
      have HE6 : Hid (PrEnd w2 w6 T) := Lib.hid ⟨by rw [HPR.out]; simpa [ba_list] using hbl, HE5.out.below.trans hb6⟩
      clear hbl hb6 HE5
      go_wp2_with fail
      refine (string_any _ _ _ HE6.out.bld).mono ?_
      rintro e w7 ⟨rfl, hb7⟩
      have HE7 : Hid (Below w.heap.size w w7) := Lib.hid (past HB2.out (HE6.out.below.trans hb7))
      clear hb7
      go_wp2
      go_ret2
      exact ⟨rfl, HE7.out⟩

set_option maxRecDepth 100000 in
set_option maxHeartbeats 1000000 in
theorem print_not (p : Pol) (w : World) (hp : p.ok) (hm : ¬ p.may) :
    Calls Tryd.prog 8 #[p.val] w fun e w' => e = .returned (.tuple #[str [], .int .i64 1]) ∧ Below w.heap.size w w' := by
  have m1 := fun w => may_any p w hp
  rw [decide_eq_false hm] at m1
  clear hm hp
  obtain ⟨a0, a1, a2, a3, cn, sp⟩ := p
  unfold Pol.val at *
  simp only at m1 ⊢
  have M1 := Lib.hid m1
  clear m1
  go_enter Tryd.func8, Tryd.ntmps8
  go_wp2_with fail
  refine (M1.out _).mono ?_
  rintro e w2 ⟨rfl, hb2⟩
  have HB2 : Hid (Below w.heap.size w w2) := Lib.hid (past (past_alloc (Below.refl _ _) _) hb2)
  clear hb2
  go_wp2
  go_ret2
  exact ⟨rfl, HB2.out⟩
end Go.Proofs.YtdiipbichlbmgaaDoor
