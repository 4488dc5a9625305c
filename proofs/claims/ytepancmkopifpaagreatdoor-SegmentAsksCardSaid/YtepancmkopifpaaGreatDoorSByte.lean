/-
  Rows of bytes; slices.Grow and Concat over them; a sum's four bytes; bytes.Equal, HasPrefix: what each returns; nothing that was there is written.
-/
import Derived.Test.YtepancmkopifpaaGreatDoorSLeaf
import Derived.Test.YtepancmkopifpaaGreatDoorUMore
import Derived.Test.YtepancmkopifpaaGreatDoorGRead
import Derived.Test.YtepancmkopifpaaGreatDoorKPutA
import Derived.Test.YtepancmkopifpaaGreatDoorKGetW
import Derived.Test.YtepancmkopifpaaGreatDoorKGetAW
set_option maxRecDepth 100000
namespace Go.Proofs.YtepancmkopifpaaGreatDoor
open Go.RowKit
attribute [local go_sem ↓] Go.wp_at_zero Go.wp_at_succ
set_option linter.unusedVariables false

/-- A slice (at A, of n bytes, of that room) reads as the bytes bs. -/
structure BRow (w : World) (A : Option Addr) (n cap : Nat) (bs : List Nat) : Prop where
  bytes : Bytes w A bs
  len : bs.length = n
  le : n ≤ cap
  max : cap ≤ maxLen
  nil : A = none → cap = 0
theorem BRow.below {w w' : World} {A : Option Addr} {n cap : Nat} {bs : List Nat} (h : BRow w A n cap bs) (hb : Below w.heap.size w w') : BRow w' A n cap bs := ⟨h.bytes.below hb, h.len, h.le, h.max, h.nil⟩
theorem BRow.none (w : World) : BRow w none 0 0 [] := ⟨⟨fun s hs => by simp at hs, fun h => by simp at h⟩, rfl, Nat.le_refl _, Nat.zero_le _, fun _ => rfl⟩
theorem brow_of_own {w : World} {base n : Nat} {v : Value} {d : List Nat} (h : w.ownsRow base 5 1 v n (bytesV d)) (hb : ∀ c ∈ d, c < 256) : ∃ A cap, v = .slice A n cap ∧ BRow w A n cap d ∧ ∀ a, A = some a → base ≤ a.block := by
  have hn : d.length = n := by have := h.1; rw [bytesV_length] at this; omega
  rcases h.2 with ⟨e, e0⟩ | ⟨g, cap, cur, e, hbg, hh, h1, h2, _⟩
  · subst e0
    obtain rfl : d = [] := List.length_eq_zero_iff.1 hn
    exact ⟨Option.none, 0, e, BRow.none w, fun a h => by cases h⟩
  · subst e
    obtain ⟨s1, s2, s3, s4, s5, s6⟩ := Bytes.own h hb
    exact ⟨some ⟨g, 0, Option.none⟩, cap, rfl, ⟨s1, s2, s3, s4, fun e => by cases e⟩, fun a h => by injection h with h; subst h; exact hbg⟩
theorem BRow.take {w : World} {A : Option Addr} {n cap : Nat} {bs : List Nat} (h : BRow w A n cap bs) {k : Nat} (hk : k ≤ n) : BRow w A k cap (bs.take k) :=
  ⟨h.bytes.take k, by rw [List.length_take, h.len]; omega, Nat.le_trans hk h.le, h.max, h.nil⟩

/-- append(v, x...) of rows of bytes. -/
theorem wpList_append_brow {w : World} {ops : Array Oper} {rest : List Oper} {o : Oper} {a : Act} {Q : Exit → Act → World → Prop} (hgd : o.guard = none) (s x : Operand)
    (ho : o.op = .call { callee := .builtin .append, args := #[s, x], argTypes := #[26, 26] }) (base : Nat) (v : Value) (n m : Nat) (l l2 : List Nat) (hs : a.eval s = v) (hown : w.ownsRow base 5 1 v n (bytesV l))
    (B : Option Addr) (c : Nat) (hx : a.eval x = .slice B m c) (hr : BRow w B m c l2) (hlen : n + m ≤ 100000) (hbase : base ≤ w.heap.size)
    (h : ∀ v' w', w'.ownsRow base 5 1 v' (n + m) (bytesV (l ++ l2)) → w.grownBy w' v.ownBlock → wpList Tryz.prog ops Q rest (a.put o.dst v') w') : wpList Tryz.prog ops Q (o :: rest) a w := by
  obtain ⟨i0', hi, hz0, hz1, hz2⟩ := info_parts Tryz.info5
  have hm := hr.len
  cases B with
  | none =>
    have hc := hr.nil rfl
    subst hc
    obtain rfl : m = 0 := by have := hr.le; omega
    obtain rfl : l2 = [] := List.length_eq_zero_iff.1 hm
    refine wpList_append_own_none hgd s x 26 ho base 5 i0' 1 Tryz.underlying26 hi v n (bytesV l) hs hown hx ?_
    refine h v w ?_ ⟨rfl, rfl, rfl, Nat.le_refl _, fun _ _ _ => rfl⟩
    rw [List.append_nil]
    exact hown
  | some ad =>
    refine wpList_append_own w hgd s x 26 ho base 5 i0' (.int .u8 0) 1 1 Tryz.underlying26 hi hz0 hz1 hz2 rfl (by decide) v n (bytesV l) hs hown ad m c (bytesV l2) hx (by rw [bytesV_length, hm]; omega) ?_ (bytesV_one _) (by unfold maxLen; omega) (by omega) hbase ?_
    · intro j u hj
      have hl : j < l2.length := by
        rcases Nat.lt_or_ge j l2.length with e | e
        · exact e
        · rw [List.getElem?_eq_none (by rw [bytesV_length]; exact e)] at hj; cases hj
      obtain ⟨ad', e, hc⟩ := hr.bytes.2 (by omega)
      injection e with e
      subst e
      rw [bytesV_get _ _ hl] at hj
      injection hj with hj
      rw [← hj]
      exact hc j hl
    · intro v' w' h1 h2 _
      exact h v' w' (by rw [bytesV_append]; exact h1) h2

set_option maxHeartbeats 1000000 in
theorem growB_any (n : Nat) (w : World) (h0 : 0 < n) (hl : n ≤ 100000) :
    Calls Tryz.prog 54 #[.slice none 0 0, .int .i64 (n : Int)] w fun e w' => ∃ v, e = .returned v ∧ w'.ownsRow w.heap.size 5 1 v 0 (bytesV []) ∧ Below w.heap.size w w' := by
  obtain ⟨i0', hi, hz0, hz1, hz2⟩ := info_parts Tryz.info5
  have hrz := fun ty => Lib.run_append_grow_zeros w 26 3 ty 5 i0' (.int .u8 0) .i64 .i64 Tryz.underlying26 Tryz.underlying3 hi hz0 none 0 0 [] (run_firstCells_none w.drew i0'.size 0 0 0) n h0 (by omega) (by omega) (by omega) (by rw [hz2]; omega) (by rw [Nat.zero_add]; exact growslice_fits h0 (by rw [hz2]; omega))
  simp only [Nat.zero_add] at hrz
  have hG : n ≤ grownCap w n 0 5 := grownCap_ge w _ _ _
  have hG2 : grownCap w n 0 5 ≤ maxLen := grownCap_le_maxLen w n 0 5 (by unfold maxLen; omega)
  generalize grownCap w n 0 5 = G at hrz hG hG2
  obtain ⟨cs, hcs⟩ : ∃ cs, cs = ([] : List Value).toArray ++ Builtin.zeroCells (Value.int .u8 0).cells n ++ Builtin.zeroCells (Value.int .u8 0).cells (G - n) := ⟨_, rfl⟩
  have hsz : cs.size = G * 1 := by
    rw [hcs]
    simp only [Array.size_append, size_zeroCells]
    show 0 + n * 1 + (G - n) * 1 = G * 1
    omega
  rw [← hcs] at hrz
  have HO : Hid ((w.drew.alloc (.cells cs 5)).ownsRow w.heap.size 5 1 (.slice (some ⟨w.heap.size, 0, none⟩) 0 G) 0 (bytesV [])) := Lib.hid (World.ownsRow_made w.drew cs G (Nat.le_refl _) hG2 hsz)
  have HB : Hid (Below w.heap.size w (w.drew.alloc (.cells cs 5))) := Lib.hid (past_alloc (Below.refl _ _).drew _)
  have i1 : ¬ ((n : Int) < 0) := by omega
  have i2 : (n : Int) > 0 := by omega
  have i3 : IntKind.i64.wrap (n : Int) = n := by rw [IntKind.wrap_i64]; omega
  clear hcs hsz hi hz0 hz1 hz2
  unfold maxLen at hG2
  have HRZ := Lib.hid hrz
  clear hrz
  go_enter Tryz.func54, Tryz.ntmps54
  go_wp2_with (at_builtin; refine Lib.wpList_append_run _ rfl _ _ _ _ rfl _ _ rfl rfl _ _ (HRZ.out _) ?_)
  all_goals
    go_ret
    exact ⟨_, rfl, HO.out, HB.out⟩

/-- The first k of some rows, one behind the other. -/
def catN (D : Nat → List Nat) : Nat → List Nat
  | 0 => []
  | k + 1 => catN D k ++ D k
theorem catN_le (D : Nat → List Nat) {i j : Nat} (h : i ≤ j) : (catN D i).length ≤ (catN D j).length := by
  induction j with
  | zero => rw [show i = 0 by omega]; exact Nat.le_refl _
  | succ j ih =>
    rcases Nat.lt_or_ge i (j + 1) with h1 | h1
    · have := ih (by omega)
      have e : (catN D (j + 1)).length = (catN D j).length + (D j).length := by rw [catN, List.length_append]
      omega
    · rw [show i = j + 1 by omega]; exact Nat.le_refl _

set_option maxHeartbeats 1000000 in
theorem concatB_any {g c k n : Nat} {A : Nat → Option Addr} {N C : Nat → Nat} {D : Nat → List Nat} {w : World} (hr : ∀ j, j < k → BRow w (A j) (N j) (C j) (D j)) (hc : ∀ j, j < k → w.cell? ⟨g, j, none⟩ = some (.slice (A j) (N j) (C j)))
    (hk : k ≤ c) (hm : c ≤ 1000) (hn : (catN D k).length = n) (h0 : 0 < n) (hl : n ≤ 100000) :
    Calls Tryz.prog 21 #[.slice (some ⟨g, 0, none⟩) k c] w fun e w' => ∃ v, e = .returned v ∧ w'.ownsRow w.heap.size 5 1 v n (bytesV (catN D k)) ∧ Below w.heap.size w w' := by
  have m1 := growB_any n w h0 hl
  have M1 := Lib.hid m1
  have HR := Lib.hid hr
  have HN := Lib.hid hn
  have HC : Hid (∀ w', Below w.heap.size w w' → ∀ j, j < k → w'.cell? ⟨g, j, none⟩ = some (.slice (A j) (N j) (C j))) := Lib.hid (fun w' hb j hj => by rw [hb.cell (World.block_lt_of_cell? w _ (hc j hj))]; exact hc j hj)
  clear hc hr hn m1
  go_enter Tryz.func21, Tryz.ntmps21
  go_wp2
  go_loopw [11, 3] (fun si st wr => ∃ (j S : Nat), j ≤ k ∧ si = .int .i64 (j : Int) ∧ st = .int .i64 (S : Int) ∧ Hid (S = (catN D j).length) ∧ w = wr) (fun si _ _ => k - (intOf si).toNat)
  case atStart => exact ⟨0, 0, by omega, rfl, rfl, Lib.hid rfl, rfl⟩
  case round =>
    obtain ⟨j, S1, hj, rfl, rfl, HS1, rfl⟩ := hrel
    by_cases hlt : j < k
    · have q := HC.out _ (Below.refl _ _) j hlt
      have i1 : (0 : Int) ≤ (j : Int) := by omega
      have i2 : (j : Int) < (k : Int) := by omega
      have hs : (catN D (j + 1)).length = S1 + N j := by rw [catN, List.length_append, (HR.out j hlt).len, HS1.out]
      have hle := catN_le D (show j + 1 ≤ k by omega)
      rw [HN.out, hs] at hle
      have i3 : IntKind.i64.wrap ((S1 : Int) + (N j : Int)) = ((S1 + N j : Nat) : Int) := by rw [IntKind.wrap_i64]; omega
      have i4 : ¬ (((S1 + N j : Nat) : Int) < 0) := by omega
      have HS : Hid (S1 + N j = (catN D (j + 1)).length) := Lib.hid hs.symm
      clear hs hle HS1
      generalize N j = nj at q i3 i4 HS
      generalize C j = cj at q
      generalize A j = aj at q
      go_wp2
      go_roundw
      case rel => exact ⟨j + 1, S1 + nj, by omega, by go_num, rfl, HS, trivial⟩
      case measure => simp [intOf]; omega
    · obtain rfl : j = k := by omega
      obtain rfl : S1 = n := by rw [HS1.out, HN.out]
      go_wp2_with fail
      refine M1.out.mono ?_
      rintro e w2 ⟨v2, rfl, hown, hb⟩
      have HO := Lib.hid hown
      have HB := Lib.hid hb
      clear hown hb M1
      go_wp2
      go_loopw [27, 6] (fun si sv wr => ∃ (i : Nat) (v : Value), i ≤ j ∧ si = .int .i64 (i : Int) ∧ v = sv ∧ Hid (wr.ownsRow w.heap.size 5 1 sv (catN D i).length (bytesV (catN D i)) ∧ Below w.heap.size w wr)) (fun si _ _ => j - (intOf si).toNat)
      case atStart => exact ⟨0, _, by omega, rfl, rfl, Lib.hid ⟨HO.out, HB.out⟩⟩
      case round =>
        obtain ⟨i, v, hi, rfl, rfl, HI⟩ := hrel
        by_cases hlt : i < j
        · have q := HC.out _ HI.out.2 i hlt
          have i1 : (0 : Int) ≤ (i : Int) := by omega
          have i2 : (i : Int) < (j : Int) := by omega
          have hle := catN_le D (show i + 1 ≤ j by omega)
          have hs : (catN D (i + 1)).length = (catN D i).length + N i := by rw [catN, List.length_append, (HR.out i hlt).len]
          have HROW := Lib.hid ((HR.out i hlt).below HI.out.2)
          have HNX : Hid (∀ v3 w3, w3.ownsRow w.heap.size 5 1 v3 ((catN D i).length + N i) (bytesV (catN D i ++ D i)) → wr.grownBy w3 v.ownBlock → (w3.ownsRow w.heap.size 5 1 v3 (catN D (i + 1)).length (bytesV (catN D (i + 1))) ∧ Below w.heap.size w w3)) := Lib.hid (fun v3 w3 h1 h2 => ⟨by rw [hs, catN]; exact h1, HI.out.2.grown h2 HI.out.2.size (fun k h => (HI.out.1.lt k h).1)⟩)
          have hbig : (catN D i).length + N i ≤ 100000 := by rw [hs, HN.out] at hle; omega
          have HBIG := Lib.hid hbig
          clear hle hs hbig
          generalize N i = nj at *
          generalize C i = cj at *
          generalize A i = aj at *
          go_wp2_with (at_builtin; refine wpList_append_brow rfl _ _ rfl w.heap.size _ _ nj (catN D i) (D i) rfl HI.out.1 aj cj rfl HROW.out HBIG.out HI.out.2.size ?_)
          intro v3 w3 hown hgrow
          have H3 := Lib.hid (HNX.out v3 w3 hown hgrow)
          clear hown hgrow HNX HROW HBIG HI q
          go_wp2
          go_roundw
          case rel => exact ⟨i + 1, _, by omega, by go_num, rfl, H3⟩
          case measure => simp [intOf]; omega
        · obtain rfl : i = j := by omega
          have HF : Hid (wr.ownsRow w.heap.size 5 1 v S1 (bytesV (catN D i)) ∧ Below w.heap.size w wr) := Lib.hid (by have := HI.out; rw [HN.out] at this; exact this)
          clear HI
          go_wp2
          go_ret
          exact ⟨_, rfl, HF.out⟩

theorem addr_zero (a : Addr) : a.add 0 = a := by
  obtain ⟨b, o, s⟩ := a
  cases s <;> simp [Addr.add]
theorem size29 (w : World) : (Go.sizeOf (Tryz.prog.elem 26)).run Tryz.prog w = .ok 1 w := by kernel_rfl
theorem sliceB_hi {A : Option Addr} {n cap k : Nat} (h : k ≤ cap) (w : World) : (Instr.slice 26 (.slice A n cap) none (some (.int .i64 (k : Int))) none).run Tryz.prog w = .ok (.slice A k cap) w := by
  rw [run_slice_h w 26 A n cap Tryz.underlying26 .i64 (k : Int) (by omega) (by omega), size29]
  simp only [Result.andThen, sliced]
  congr 2
  · cases A with
    | none => simp
    | some a =>
      split
      · rfl
      · simp [addr_zero]
theorem sliceB_lo {A : Option Addr} {n cap k : Nat} {l : List Nat} {w : World} (hr : BRow w A n cap l) (h : k ≤ n) :
    ∃ A2, (∀ w, (Instr.slice 26 (.slice A n cap) (some (.int .i64 (k : Int))) none none).run Tryz.prog w = .ok (.slice A2 (n - k) (cap - k)) w) ∧ BRow w A2 (n - k) (cap - k) (l.drop k) := by
  have hc := hr.le
  refine ⟨if cap = k then A else A.map (·.add (k * 1)), fun w => ?_, ⟨⟨fun s hs => hr.bytes.1 s (List.mem_of_mem_drop hs), fun hp => ?_⟩, ?_, ?_, ?_, fun e => ?_⟩⟩
  · rw [run_slice_l w 26 A n cap Tryz.underlying26 .i64 (k : Int) (by omega) (by omega), size29]
    simp [Result.andThen, sliced]
  · rw [List.length_drop, hr.len] at hp
    obtain ⟨b, off, rfl, hcell⟩ := hr.bytes.at_ (by have := hr.len; omega)
    rw [if_neg (by omega)]
    refine ⟨⟨b, off + k * 1, none⟩, by rw [Option.map_some, addr_add], fun j hj => ?_⟩
    rw [List.length_drop, hr.len] at hj
    rw [addr_add, show off + k * 1 + j = off + (k + j) by omega, hcell (k + j) (by have := hr.len; omega)]
    congr 3
    simp [List.getD_eq_getElem?_getD]
  · rw [List.length_drop, hr.len]
  · omega
  · have := hr.max; omega
  · split at e
    · have := hr.nil e; omega
    · have := hr.nil (by cases A with
        | none => rfl
        | some a => simp at e)
      omega

set_option maxHeartbeats 1000000 in
theorem sumB_any {A : Option Addr} {n cap : Nat} {bs : List Nat} {w : World} (h : BRow w A n cap bs) :
    Calls Tryz.prog 23 #[.slice A n cap] w fun e w' => ∃ g, e = .returned (.slice (some ⟨g, 0, none⟩) 4 4) ∧ w'.ownsRow w.heap.size 5 1 (.slice (some ⟨g, 0, none⟩) 4 4) 4 (bytesV (four (more 1 bs))) ∧ Below w.heap.size w w' := by
  have m1 := of_any h.len h.bytes h.le h.max
  have hlt := more32 1 bs
  generalize more 1 bs = R at m1 hlt ⊢
  have M1 := Lib.hid m1
  clear m1 h
  go_enter Tryz.func23, Tryz.ntmps23
  go_wp2_with fail
  refine M1.out.mono ?_
  rintro e w2 ⟨rfl, rfl⟩
  go_wp2
  go_ret
  refine ⟨_, rfl, ?_, below_box _ _⟩
  have e : bytesV (four R) = (#[Value.int IntKind.u8 ((R : Int) % 256), Value.int IntKind.u8 ((R : Int) / 256 % 256), Value.int IntKind.u8 ((R : Int) / 65536 % 256), Value.int IntKind.u8 ((R : Int) / 16777216)] : Array Value).toList := by
    unfold bytesV four
    simp only [List.map_cons, List.map_nil]
    have e4 : ((R / 16777216 % 256 : Nat) : Int) = (R : Int) / 16777216 := by omega
    rw [e4]
    simp
  rw [e]
  exact World.ownsRow_lit (size := 1) w #[Value.int IntKind.u8 ((R : Int) % 256), Value.int IntKind.u8 ((R : Int) / 256 % 256), Value.int IntKind.u8 ((R : Int) / 65536 % 256), Value.int IntKind.u8 ((R : Int) / 16777216)] 4 (Nat.le_refl _) (by unfold maxLen; omega) rfl

theorem strB_eq {a b : List Nat} (ha : ∀ c ∈ a, c < 256) (hb : ∀ c ∈ b, c < 256) : ((strB a).toList == (strB b).toList) = decide (a = b) := by
  rw [Bool.eq_iff_iff, beq_iff_eq, decide_eq_true_eq]
  rw [Lib.toList_data, Lib.toList_data]
  exact ⟨fun e => strB_inj ha hb (ByteArray.ext (Array.toList_inj.1 e)), fun h => by rw [h]⟩
set_option maxHeartbeats 1000000 in
theorem equalB_any {A B : Option Addr} {n m ca cb : Nat} {a b : List Nat} {w : World} (h1 : BRow w A n ca a) (h2 : BRow w B m cb b) :
    Calls Tryz.prog 59 #[.slice A n ca, .slice B m cb] w fun e w' => e = .returned (.bool (decide (a = b))) ∧ w = w' := by
  have c1 := conv_bytes h1.bytes n ca h1.len
  have c2 := conv_bytes h2.bytes m cb h2.len
  have e := strB_eq h1.bytes.1 h2.bytes.1
  obtain ⟨R, hR⟩ : ∃ R, R = decide (a = b) := ⟨_, rfl⟩
  rw [← hR] at e ⊢
  have E := Lib.hid e
  clear h1 h2 e hR
  generalize strB a = S at *
  generalize strB b = T at *
  go_enter Tryz.func59, Tryz.ntmps59
  go_wp2
  go_ret
  exact ⟨by rw [← E.out]; rfl, rfl⟩

set_option maxHeartbeats 1000000 in
theorem prefix_any {A B : Option Addr} {n ca : Nat} {a : List Nat} {w : World} (h1 : BRow w A n ca a) (h2 : BRow w B 2 2 [84, 75]) :
    Calls Tryz.prog 60 #[.slice A n ca, .slice B 2 2] w fun e w' => e = .returned (.bool (decide (a.take 2 = [84, 75]))) ∧ w = w' := by
  by_cases hn : 2 ≤ n
  · have hs : ∀ w, (Instr.slice 26 (.slice A n ca) none (some (.int .i64 2)) none).run Tryz.prog w = .ok (.slice A 2 ca) w := fun w => sliceB_hi (A := A) (n := n) (k := 2) (Nat.le_trans hn h1.le) w
    have m1 := equalB_any (h1.take hn) h2
    have M1 := Lib.hid m1
    generalize decide (a.take 2 = [84, 75]) = R at *
    have i1 : (2 : Int) ≤ (n : Int) := by omega
    clear m1 h1 h2 hn
    go_enter Tryz.func60, Tryz.ntmps60
    go_wp2_with fail
    refine M1.out.mono ?_
    rintro e w2 ⟨rfl, rfl⟩
    go_wp2
    go_ret
    exact ⟨rfl, rfl⟩
  · have e : decide (a.take 2 = [84, 75]) = false := decide_eq_false (fun e => by have := congrArg List.length e; rw [List.length_take, h1.len] at this; simp at this; omega)
    rw [e]
    have i1 : ¬ ((2 : Int) ≤ (n : Int)) := by omega
    clear h1 h2 hn e
    go_enter Tryz.func60, Tryz.ntmps60
    go_wp2
    go_ret
    exact ⟨rfl, rfl⟩

def summed (bs : List Nat) : Prop := 4 ≤ bs.length ∧ bs.drop (bs.length - 4) = four (more 1 (bs.take (bs.length - 4)))
instance summedDec (bs : List Nat) : Decidable (summed bs) := by unfold summed; infer_instance
set_option maxHeartbeats 1000000 in
theorem summed_any {A : Option Addr} {n ca : Nat} {bs : List Nat} {w : World} (h1 : BRow w A n ca bs) :
    Calls Tryz.prog 29 #[.slice A n ca] w fun e w' => e = .returned (.bool (decide (summed bs))) ∧ Below w.heap.size w w' := by
  have hmax := h1.max
  have hle := h1.le
  unfold maxLen at hmax
  by_cases hn : 4 ≤ n
  · obtain ⟨A2, hs2, hr2⟩ := sliceB_lo h1 (show n - 4 ≤ n by omega)
    have hs1 := fun w => sliceB_hi (A := A) (n := n) (k := n - 4) (cap := ca) (by omega) w
    obtain ⟨K, hK⟩ : ∃ K, K = n - 4 := ⟨_, rfl⟩
    rw [← hK] at hs1 hs2 hr2
    have e0 : n - K = 4 := by omega
    rw [e0] at hs2 hr2
    have m1 : ∀ u, Below w.heap.size w u → _ := fun u hu => sumB_any ((h1.below hu).take (show K ≤ n by omega))
    have HR2 := Lib.hid hr2
    have e1 : decide (summed bs) = decide (bs.drop K = four (more 1 (bs.take K))) := by
      rw [decide_eq_decide]; unfold summed; rw [h1.len, ← hK]
      exact ⟨fun h => h.2, fun h => ⟨hn, h⟩⟩
    rw [e1]
    have M1 := Lib.hid m1
    have M2 : Hid (∀ u u' g, Below w.heap.size w u → u'.ownsRow u.heap.size 5 1 (.slice (some ⟨g, 0, none⟩) 4 4) 4 (bytesV (four (more 1 (bs.take K)))) → Below u.heap.size u u' →
        Calls Tryz.prog 59 #[.slice A2 4 (ca - K), .slice (some ⟨g, 0, none⟩) 4 4] u' fun e w' => e = .returned (.bool (decide (bs.drop K = four (more 1 (bs.take K))))) ∧ u' = w') := Lib.hid (fun u u' g hu ho hb => by
      obtain ⟨s1, s2, s3, s4, s5, s6⟩ := Bytes.own ho (four_byte _)
      exact equalB_any ((hr2.below hu).below hb) ⟨s1, s2, s3, s4, fun e => by cases e⟩)
    generalize decide (bs.drop K = four (more 1 (bs.take K))) = R at *
    have i0 : IntKind.i64.wrap ((n : Int) - 4) = (K : Int) := by rw [IntKind.wrap_i64]; omega
    have i1 : (0 : Int) ≤ (K : Int) := by omega
    have HBD : Hid (∀ m, Below w.heap.size w (w.drewN m)) := Lib.hid (fun m => belowN _ _)
    clear m1 h1 hr2 hK e0 e1 hmax hle hn HR2
    go_enter Tryz.func29, Tryz.ntmps29
    go_upto_region 2 with fail
    go_region_held3 (fun w' => True) (trivial)
      (first
        | (go_at_call 23; refine (M1.out _ (HBD.out _)).mono ?_; rintro e wt ⟨g, rfl, hown, hb⟩)
        | (go_at_call 59; refine (M2.out _ _ _ (HBD.out _) hown hb).mono ?_; rintro e wt2 ⟨rfl, rfl⟩))
    go_wp2
    go_ret
    exact ⟨rfl, past (HBD.out _) hb⟩
  · have e : decide (summed bs) = false := decide_eq_false (fun e => by have := e.1; rw [h1.len] at this; omega)
    rw [e]
    have i0 : IntKind.i64.wrap ((n : Int) - 4) = (n : Int) - 4 := by rw [IntKind.wrap_i64]; omega
    have i1 : decide ((4 : Int) ≤ (n : Int)) = false := decide_eq_false (by omega)
    clear h1 hn e hmax hle
    go_enter Tryz.func29, Tryz.ntmps29
    go_upto_region 2 with fail
    go_quiet (fail)
    go_wp2
    go_ret
    exact ⟨rfl, belowN _ _⟩
end Go.Proofs.YtepancmkopifpaaGreatDoor
