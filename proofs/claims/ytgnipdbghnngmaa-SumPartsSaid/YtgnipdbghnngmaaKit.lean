/-
  Small facts that all walks share: an argument's range; a row of bytes, as it is read, behind a store, behind an append; bytes as a string.
-/
import Derived.Test.YtgnipdbghnngmaaProg
import Derived.Test.YtgnipdbghnngmaaMath
import Derived.WalkKit
import Derived.Lib.Hide
import Derived.Deep.AppendLies
import Derived.Deep.LoopGhost
import Derived.Deep.QuietTactic
import Derived.BigQuiet
import Derived.Laws.BytesArg
import Derived.Laws.BitsAllLaws
import Derived.Deep.DeepCutAuto
import Derived.Laws.AppendOwnNone
namespace Go.Proofs.Ytgnipdbghnngmaa
open Go.RowKit

theorem Try.info5 : (Try.prog.info? 5).map (fun i => (i.zero, i.size, i.bytes)) = some (some (.int .u8 0), 1, 1) := by kernel_rfl
theorem ret_int {k : IntKind} {a b : Int} (h : a = b) : Ending.returned (.int k a) = .returned (.int k b) := by rw [h]

theorem fits_i64 {a : Int} (h : (Lit.int .i64 a).wf = true) : -9223372036854775808 ≤ a ∧ a ≤ 9223372036854775807 := by
  simpa [Lit.wf, IntKind.min, IntKind.max, IntKind.bits, IntKind.signed] using h
theorem fits_u32 {a : Int} (h : (Lit.int .u32 a).wf = true) : 0 ≤ a ∧ a ≤ 4294967295 := by
  simpa [Lit.wf, IntKind.min, IntKind.max, IntKind.bits, IntKind.signed] using h
theorem fits_u8 {a : Int} (h : (Lit.int .u8 a).wf = true) : 0 ≤ a ∧ a ≤ 255 := by
  simpa [Lit.wf, IntKind.min, IntKind.max, IntKind.bits, IntKind.signed] using h

/-- A row of bytes as cells. -/
def bytesV (l : List Nat) : List Value := l.map fun c : Nat => Value.int .u8 (c : Int)
theorem bytesV_append (a b : List Nat) : bytesV (a ++ b) = bytesV a ++ bytesV b := by simp [bytesV]
theorem bytesV_length (a : List Nat) : (bytesV a).length = a.length := by simp [bytesV]
theorem bytesV_set (l : List Nat) (j d : Nat) : (bytesV l).set j (.int .u8 (d : Int)) = bytesV (l.set j d) := by
  unfold bytesV; rw [List.map_set]
theorem bytesV_get (l : List Nat) (j : Nat) (h : j < l.length) : (bytesV l)[j]? = some (.int .u8 ((l.getD j 0 : Nat) : Int)) := by
  unfold bytesV; simp [h]
theorem bytesV_one (l : List Nat) : ∀ u ∈ bytesV l, u.oneCell' = true := by
  intro u hu
  unfold bytesV at hu
  obtain ⟨c, _, rfl⟩ := List.mem_map.1 hu
  rfl

/-- The slice at A reads as the bytes bs. -/
def Bytes (w : World) (A : Option Addr) (bs : List Nat) : Prop :=
  (∀ c ∈ bs, c < 256) ∧ (0 < bs.length → ∃ ad, A = some ad ∧ ∀ j, j < bs.length → w.cell? (ad.add j) = some (.int .u8 ((bs.getD j 0 : Nat) : Int)))

theorem addr_add (b off j : Nat) : (⟨b, off, none⟩ : Addr).add j = ⟨b, off + j, none⟩ := by
  unfold Addr.add
  split
  · next e => rw [e]; rfl
  · rfl
theorem Bytes.at_ {w : World} {A : Option Addr} {bs : List Nat} (h : Bytes w A bs) (hl : 0 < bs.length) :
    ∃ b off, A = some ⟨b, off, none⟩ ∧ ∀ j, j < bs.length → w.cell? ⟨b, off + j, none⟩ = some (.int .u8 ((bs.getD j 0 : Nat) : Int)) := by
  obtain ⟨⟨b, off, spot⟩, rfl, hc⟩ := h.2 hl
  have h0 := hc 0 hl
  have hs : spot = none := by simpa [Addr.add] using World.cell?_spot h0
  subst hs
  refine ⟨b, off, rfl, fun j hj => ?_⟩
  have := hc j hj
  rw [addr_add] at this
  exact this
theorem Bytes.of_at {w : World} {b off : Nat} {bs : List Nat} (hb : ∀ c ∈ bs, c < 256) (h : ∀ j, j < bs.length → w.cell? ⟨b, off + j, none⟩ = some (.int .u8 ((bs.getD j 0 : Nat) : Int))) :
    Bytes w (some ⟨b, off, none⟩) bs :=
  ⟨hb, fun _ => ⟨_, rfl, fun j hj => by rw [addr_add]; exact h j hj⟩⟩
theorem Bytes.nil (w : World) (A : Option Addr) : Bytes w A [] := ⟨by simp, fun hp => absurd hp (by decide)⟩

theorem getD_mem {bs : List Nat} {i : Nat} (h : i < bs.length) : bs.getD i 0 ∈ bs := by
  have e : bs.getD i 0 = bs[i] := by simp [h]
  rw [e]; exact List.getElem_mem h

/-- What a row of the call's own that holds bytes gives a reader. -/
theorem Bytes.own {w : World} {base g n cap : Nat} {bs : List Nat} (h : w.ownsRow base 5 1 (.slice (some ⟨g, 0, none⟩) n cap) n (bytesV bs)) (hb : ∀ c ∈ bs, c < 256) :
    Bytes w (some ⟨g, 0, none⟩) bs ∧ bs.length = n ∧ n ≤ cap ∧ cap ≤ maxLen ∧ base ≤ g ∧ g < w.heap.size := by
  have hn : bs.length = n := by have := h.1; rw [bytesV_length] at this; omega
  refine ⟨⟨hb, fun hp => ⟨_, rfl, fun j hj => ?_⟩⟩, hn, ?_⟩
  · refine h.cells (g := g) rfl j _ ?_
    unfold bytesV
    simp [hj]
  · rcases h.2 with ⟨e, _⟩ | ⟨g', cap', cur, e, hbg, hh, h1, h2, _⟩
    · cases e
    · injection e with e1 e2 e3
      injection e1 with e1
      injection e1 with e1
      subst e1 e3
      refine ⟨h1, h2, hbg, ?_⟩
      rcases Nat.lt_or_ge g w.heap.size with hlt | hge
      · exact hlt
      · rw [Array.getElem?_eq_none hge] at hh; cases hh

theorem Bytes.below {w w' : World} {A : Option Addr} {bs : List Nat} (h : Bytes w A bs) (hb : Below w.heap.size w w') : Bytes w' A bs := by
  refine ⟨h.1, fun hp => ?_⟩
  obtain ⟨ad, rfl, hc⟩ := h.2 hp
  refine ⟨ad, rfl, fun j hj => ?_⟩
  rw [← hc j hj]
  exact hb.cell (World.block_lt_of_cell? w _ (hc j hj))
theorem Bytes.take {w : World} {A : Option Addr} {bs : List Nat} (h : Bytes w A bs) (k : Nat) : Bytes w A (bs.take k) := by
  refine ⟨fun c hc => h.1 c (List.mem_of_mem_take hc), fun hp => ?_⟩
  have hp' : 0 < bs.length := by rw [List.length_take] at hp; omega
  obtain ⟨ad, e, hc⟩ := h.2 hp'
  refine ⟨ad, e, fun j hj => ?_⟩
  rw [List.length_take] at hj
  rw [hc j (by omega)]
  congr 3
  rw [List.getD_eq_getElem?_getD, List.getD_eq_getElem?_getD, List.getElem?_take, if_pos (by omega)]
/-- What stands behind a place of a row, as its slice from there on reads it. -/
theorem Bytes.drop {w : World} {b off : Nat} {bs : List Nat} (h : Bytes w (some ⟨b, off, none⟩) bs) (k : Nat) : Bytes w (some ⟨b, off + k, none⟩) (bs.drop k) := by
  refine .of_at (fun c hc => h.1 c (List.mem_of_mem_drop hc)) fun j hj => ?_
  rw [List.length_drop] at hj
  obtain ⟨b', off', e, hc⟩ := h.at_ (by omega)
  injection e with e
  injection e with e1 e2
  subst e1 e2
  rw [Nat.add_assoc, hc (k + j) (by omega)]
  congr 3
  rw [List.getD_eq_getElem?_getD, List.getD_eq_getElem?_getD, List.getElem?_drop]

/-- A slice of integers that came in: nil, or a row of 'cap' cells, the first 'len' of them its elements. -/
def IsRow (k : IntKind) (w : World) (a : Option Addr) (len cap : Nat) (zs : List Int) : Prop :=
  (a = none ∧ len = 0 ∧ cap = 0 ∧ zs = []) ∨
  ∃ x, a = some x ∧ len ≤ cap ∧ cap ≤ maxLen ∧ zs.length = cap ∧ (∀ i, i < zs.length → w.cell? (x.add i) = some (.int k (zs.getD i 0))) ∧ ∀ n ∈ zs, (Lit.int k n).wf = true

theorem Bytes.of_row {w : World} {a : Option Addr} {len cap : Nat} {zs : List Int} (h : IsRow .u8 w a len cap zs) :
    ∃ bs : List Nat, bs.length = len ∧ Bytes w a bs ∧ len ≤ cap ∧ cap ≤ maxLen ∧ (a = none → cap = 0) := by
  rcases h with ⟨rfl, rfl, rfl, rfl⟩ | ⟨x, rfl, h1, h2, h3, hc, hw⟩
  · exact ⟨[], rfl, ⟨by simp, fun hp => absurd hp (by decide)⟩, by decide, by decide, fun _ => rfl⟩
  · refine ⟨(zs.take len).map Int.toNat, by simp; omega, ⟨?_, fun hp => ⟨x, rfl, fun j hj => ?_⟩⟩, h1, h2, fun e => by cases e⟩
    · intro c hcm
      obtain ⟨z, hz, rfl⟩ := List.mem_map.1 hcm
      have := fits_u8 (hw z (List.mem_of_mem_take hz))
      omega
    · have hj' : j < len := by simp at hj; omega
      have hjz : j < zs.length := by omega
      rw [hc j hjz]
      have hm : zs.getD j 0 ∈ zs := by
        have e : zs.getD j 0 = zs[j] := by simp [hjz]
        rw [e]; exact List.getElem_mem hjz
      have := fits_u8 (hw _ hm)
      congr 2
      have e : ((zs.take len).map Int.toNat).getD j 0 = (zs.getD j 0).toNat := by
        simp [hj', hjz]
      rw [e]
      omega

theorem belowN (w : World) (n : Nat) : Below w.heap.size w (w.drewN n) := ⟨rfl, rfl, rfl, Nat.le_refl _, fun _ _ => rfl⟩
theorem wrap_nat (a : Int) : ∃ U : Nat, IntKind.u64.wrap a = (U : Int) := by
  refine ⟨(IntKind.u64.wrap a).toNat, ?_⟩
  rw [IntKind.wrap_u64]
  omega

/-- Bytes as a string. -/
def strB (bs : List Nat) : ByteArray := strOfNums (bs.map fun c : Nat => (c : Int))
theorem strB_size (bs : List Nat) : (strB bs).size = bs.length := by unfold strB; rw [strOfNums_size]; simp
/-- The bytes of a string made of bytes. -/
theorem strB_get (bs : List Nat) (hb : ∀ c ∈ bs, c < 256) : ∀ j (h : j < (strB bs).size), ((strB bs)[j]'h).toNat = bs.getD j 0 := by
  intro j h
  have hj : j < bs.length := by rw [strB_size] at h; exact h
  have e : (strB bs)[j]'h = UInt8.ofNat (bs.getD j 0) := by
    show (strB bs).data[j] = _
    simp [strB, strOfNums, hj]
  rw [e]
  rw [UInt8.toNat_ofNat']
  exact Nat.mod_eq_of_lt (hb _ (getD_mem hj))

theorem conv_bytes {w : World} {A : Option Addr} {bs : List Nat} (h : Bytes w A bs) (n cap : Nat) (hn : bs.length = n) :
    (convert 22 9 (.slice A n cap)).run Try.prog w = .ok (.string (strB bs)) w := by
  by_cases hp : 0 < bs.length
  · obtain ⟨b, off, rfl, hc⟩ := h.at_ hp
    refine run_convert_bytes_arg w 22 5 Try.underlying22 Try.underlying5 b off n cap _ (by simpa using hn) ?_ 9 Try.underlying9
    intro i hi
    rw [hc i (by omega)]
    congr 2
    have : i < bs.length := by omega
    simp [this]
  · have e : bs = [] := List.eq_nil_of_length_eq_zero (by omega)
    subst e
    simp at hn
    subst hn
    rcases A with _ | ⟨b, off, spot⟩
    · exact run_convert_bytes_nil w 22 5 Try.underlying22 Try.underlying5 0 cap 9 Try.underlying9
    · rw [run_convert_bytes_string w 22 9 5 _ 0 cap Try.underlying22 Try.underlying5 Try.underlying9]
      rw [run_bytesToString w _ 0 cap [] (by simp [loadCells, loadCellsFrom])]
      rfl

/-- An operation whose guard holds is walked as one that has none. -/
theorem wpList_on {P : Program} {ops : Array Oper} {rest : List Oper} {o : Oper} {a : Act} {Q : Exit → Act → World → Prop} {w : World} (hw : Region.wanted o (yielded ops a.tmps) = true)
    (h : wpList P ops Q ({ o with guard := none } :: rest) a w) : wpList P ops Q (o :: rest) a w := by
  unfold wpList at h ⊢
  rw [if_pos hw]
  rw [if_pos (by simp [Region.wanted])] at h
  exact h

/-- append(x, b...): x a row of the call's own, b bytes that are read, nil or not. -/
theorem wpList_append_bytes {ops : Array Oper} {rest : List Oper} {o : Oper} {a : Act} {Q : Exit → Act → World → Prop} {w : World} (hgd : o.guard = none) (s x : Operand)
    (ho : o.op = .call { callee := .builtin .append, args := #[s, x], argTypes := #[22, 22] })
    (base : Nat) (v : Value) (n : Nat) (xs : List Value) (hs : a.eval s = v) (hown : w.ownsRow base 5 1 v n xs)
    (A : Option Addr) (m c : Nat) (bs : List Nat) (hx : a.eval x = .slice A m c) (hB : Bytes w A bs) (hl : bs.length = m) (hmc : m ≤ c) (hA : A = none → c = 0) (hnm : n + m ≤ 1000000) (hbase : base ≤ w.heap.size)
    (h : ∀ v' w', w'.ownsRow base 5 1 v' (n + m) (xs ++ bytesV bs) → w.grownBy w' v.ownBlock → wpList Try.prog ops Q rest (a.put o.dst v') w') : wpList Try.prog ops Q (o :: rest) a w := by
  obtain ⟨i0, hi, hz0, hz1, hz2⟩ := info_parts Try.info5
  rcases A with _ | ad
  · obtain rfl := hA rfl
    obtain rfl : m = 0 := by omega
    obtain rfl : bs = [] := List.eq_nil_of_length_eq_zero hl
    refine wpList_append_own_none hgd s x 22 ho base 5 i0 1 Try.underlying22 hi v n xs hs hown hx (h v w ?_ ⟨rfl, rfl, rfl, Nat.le_refl _, fun _ _ _ => rfl⟩)
    simpa [bytesV] using hown
  · refine wpList_append_own _ hgd s x 22 ho base 5 i0 (.int .u8 0) 1 1 Try.underlying22 hi hz0 hz1 hz2 rfl (by decide) v n xs hs hown ad m c (bytesV bs) hx (by rw [bytesV_length, hl, Nat.mul_one]) ?_ (bytesV_one bs) (by unfold maxLen; omega) (by omega) hbase
      fun v' w' h1 h2 _ => h v' w' h1 h2
    intro j u hj
    have hj' : j < bs.length := by
      rcases Nat.lt_or_ge j bs.length with hlt | hge
      · exact hlt
      · rw [List.getElem?_eq_none (by rw [bytesV_length]; exact hge)] at hj; cases hj
    rw [bytesV_get bs j hj'] at hj
    injection hj with hj
    obtain ⟨ad', e, hc⟩ := hB.2 (by omega)
    injection e with e
    subst e
    rw [hc j hj', hj]
end Go.Proofs.Ytgnipdbghnngmaa
