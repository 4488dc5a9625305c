/-
  Rows of bytes, bytes as a string, worlds that grow: the plain kit of the disk's texts.
-/
import Derived.Test.YtofjealjecfkiaaProg
import Derived.WalkKit
import Derived.Lib.Hide
import Derived.Lib.MinMax
import Derived.Laws.ResultCell
import Derived.Laws.Cover1
import Derived.Laws.BytesArg
import Derived.Laws.AppendOwn
import Derived.Laws.AppendOwnNone
import Derived.Laws.OwnMore
import Derived.Deep.AppendLies
import Derived.Deep.DrawnRows
import Derived.Deep.DeepCutAuto
import Derived.Deep.LoopGhost
import Derived.Deep.QuietTactic
import Derived.Deep.RegionHeld3
import Derived.Deep.RegionLaw
import Derived.Deep.Light
import Derived.BigQuiet
import Derived.BigRegion
import Derived.Below
import Derived.Lib.SliceRun
import Derived.Lib.Overlaps
import Derived.Lib.JoinLaws
import Derived.Lib.SlBuf
import Derived.Laws.Externs
import Derived.Lib.UnsafeStr
set_option maxRecDepth 100000
namespace Go.Proofs.Ytofjealjecfkiaa
open Go.RowKit
attribute [local go_sem ↓] Go.wp_at_zero Go.wp_at_succ
set_option linter.unusedVariables false

theorem ret_int {k : IntKind} {a b : Int} (h : a = b) : Ending.returned (.int k a) = .returned (.int k b) := by rw [h]

theorem Try.info5 : (Try.prog.info? 5).map (fun i => (i.zero, i.size, i.bytes)) = some (some (.int .u8 0), 1, 1) := by kernel_rfl

/-- A row of bytes as cells. -/
def bytesV (l : List Nat) : List Value := l.map fun c : Nat => Value.int .u8 (c : Int)
theorem bytesV_append (a b : List Nat) : bytesV (a ++ b) = bytesV a ++ bytesV b := by simp [bytesV]
theorem bytesV_length (a : List Nat) : (bytesV a).length = a.length := by simp [bytesV]

/-- The slice at A reads as the bytes bs. -/
def Bytes (w : World) (A : Option Addr) (bs : List Nat) : Prop :=
  (∀ c ∈ bs, c < 256) ∧ (0 < bs.length → ∃ ad, A = some ad ∧ ∀ j, j < bs.length → w.cell? (ad.add j) = some (.int .u8 ((bs.getD j 0 : Nat) : Int)))

theorem Bytes.at_ {w : World} {A : Option Addr} {bs : List Nat} (h : Bytes w A bs) (hl : 0 < bs.length) :
    ∃ b off, A = some ⟨b, off, none⟩ ∧ ∀ j, j < bs.length → w.cell? ⟨b, off + j, none⟩ = some (.int .u8 ((bs.getD j 0 : Nat) : Int)) := by
  obtain ⟨⟨b, off, spot⟩, rfl, hc⟩ := h.2 hl
  have h0 := hc 0 hl
  have hs : spot = none := by simpa [Addr.add] using World.cell?_spot h0
  subst hs
  refine ⟨b, off, rfl, fun j hj => ?_⟩
  have := hc j hj
  unfold Addr.add at this
  split at this
  · next e => subst e; exact this
  · exact this

theorem drop_at {bs : List Nat} {i : Nat} (h : i < bs.length) : bs.drop i = bs.getD i 0 :: bs.drop (i + 1) := by
  rw [List.drop_eq_getElem_cons h]; simp [h]

theorem getD_mem {bs : List Nat} {i : Nat} (h : i < bs.length) : bs.getD i 0 ∈ bs := by
  have e : bs.getD i 0 = bs[i] := by simp [h]
  rw [e]; exact List.getElem_mem h
theorem ret3 {a b c a' b' c' : Value} (h1 : a = a') (h2 : b = b') (h3 : c = c') : Ending.returned (.tuple #[a, b, c]) = .returned (.tuple #[a', b', c']) := by rw [h1, h2, h3]

/-- What a row of the call's own that holds bytes gives a reader. -/
theorem Bytes.own {w : World} {base g n cap : Nat} {bs : List Nat} (h : w.ownsRow base 5 1 (.slice (some ⟨g, 0, none⟩) n cap) n (bytesV bs)) (hb : ∀ c ∈ bs, c < 256) :
    Bytes w (some ⟨g, 0, none⟩) bs ∧ bs.length = n ∧ n ≤ cap ∧ cap ≤ maxLen ∧ base ≤ g ∧ g < w.heap.size := by
  have hn : bs.length = n := by have := h.1; rw [bytesV_length] at this; omega
  refine ⟨⟨hb, fun hp => ⟨_, rfl, fun j hj => ?_⟩⟩, hn, ?_⟩
  · refine h.cells (g := g) rfl j _ ?_
    unfold bytesV
    simp [hj]
  · rcases h.2 with ⟨e, _⟩ | ⟨g', cap', cur, e, hbg, hh, h1, h2, _⟩
    · cases e
    · injection e with e1 e2 e3
      injection e1 with e1
      injection e1 with e1
      subst e1 e3
      refine ⟨h1, h2, hbg, ?_⟩
      rcases Nat.lt_or_ge g w.heap.size with hlt | hge
      · exact hlt
      · rw [Array.getElem?_eq_none hge] at hh; cases hh

theorem Bytes.keep {w w' : World} {A : Option Addr} {bs : List Nat} {B : Nat} (h : Bytes w A bs) (hb : Below B w w') (hA : ∀ ad, A = some ad → ad.block < B) : Bytes w' A bs := by
  refine ⟨h.1, fun hp => ?_⟩
  obtain ⟨ad, rfl, hc⟩ := h.2 hp
  refine ⟨ad, rfl, fun j hj => ?_⟩
  rw [← hc j hj]
  refine hb.cell ?_
  have := hA ad rfl
  unfold Addr.add
  split <;> exact this


theorem fits_u8 {a : Int} (h : (Lit.int .u8 a).wf = true) : 0 ≤ a ∧ a ≤ 255 := by
  simpa [Lit.wf, IntKind.min, IntKind.max, IntKind.bits, IntKind.signed] using h

theorem vfits_i64 {a : Int} (h : (Lit.int .i64 a).wf = true) : -9223372036854775808 ≤ a ∧ a ≤ 9223372036854775807 := by
  simpa [Lit.wf, IntKind.min, IntKind.max, IntKind.bits, IntKind.signed] using h
theorem fits_u64 {a : Int} (h : (Lit.int .u64 a).wf = true) : 0 ≤ a ∧ a ≤ 18446744073709551615 := by
  simpa [Lit.wf, IntKind.min, IntKind.max, IntKind.bits, IntKind.signed] using h
/-- A slice of integers that came in: nil, or a row of 'cap' cells, the first 'len' of them its elements. -/
def IsRow (k : IntKind) (w : World) (a : Option Addr) (len cap : Nat) (zs : List Int) : Prop :=
  (a = none ∧ len = 0 ∧ cap = 0 ∧ zs = []) ∨
  ∃ x, a = some x ∧ len ≤ cap ∧ cap ≤ maxLen ∧ zs.length = cap ∧ (∀ i, i < zs.length → w.cell? (x.add i) = some (.int k (zs.getD i 0))) ∧ ∀ n ∈ zs, (Lit.int k n).wf = true

theorem bytesV_set (l : List Nat) (j d : Nat) : (bytesV l).set j (.int .u8 (d : Int)) = bytesV (l.set j d) := by
  unfold bytesV; rw [List.map_set]
theorem bytesV_get (l : List Nat) (j : Nat) (h : j < l.length) : (bytesV l)[j]? = some (.int .u8 ((l.getD j 0 : Nat) : Int)) := by
  unfold bytesV; simp [h]
theorem bytesV_one (l : List Nat) : ∀ u ∈ bytesV l, u.oneCell' = true := by
  intro u hu
  unfold bytesV at hu
  obtain ⟨c, _, rfl⟩ := List.mem_map.1 hu
  rfl
theorem Bytes.take {w : World} {A : Option Addr} {bs : List Nat} (h : Bytes w A bs) (k : Nat) : Bytes w A (bs.take k) := by
  refine ⟨fun c hc => h.1 c (List.mem_of_mem_take hc), fun hp => ?_⟩
  have hp' : 0 < bs.length := by rw [List.length_take] at hp; omega
  obtain ⟨ad, e, hc⟩ := h.2 hp'
  refine ⟨ad, e, fun j hj => ?_⟩
  rw [List.length_take] at hj
  rw [hc j (by omega)]
  congr 3
  rw [List.getD_eq_getElem?_getD, List.getD_eq_getElem?_getD, List.getElem?_take, if_pos (by omega)]

theorem addr0 (g k : Nat) : (⟨g, 0, none⟩ : Addr).add k = ⟨g, k, none⟩ := by
  unfold Addr.add
  split
  · next e => rw [e]
  · simp
/-- Bytes as a string. -/
def strB (bs : List Nat) : ByteArray := strOfNums (bs.map fun c : Nat => (c : Int))

theorem conv_bytes {w : World} {A : Option Addr} {bs : List Nat} (h : Bytes w A bs) (n cap : Nat) (hn : bs.length = n) :
    (convert 22 9 (.slice A n cap)).run Try.prog w = .ok (.string (strB bs)) w := by
  by_cases hp : 0 < bs.length
  · obtain ⟨b, off, rfl, hc⟩ := h.at_ hp
    refine run_convert_bytes_arg w 22 5 Try.underlying22 Try.underlying5 b off n cap _ (by simpa using hn) ?_ 9 Try.underlying9
    intro i hi
    rw [hc i (by omega)]
    congr 2
    have : i < bs.length := by omega
    simp [this]
  · have e : bs = [] := List.eq_nil_of_length_eq_zero (by omega)
    subst e
    simp at hn
    subst hn
    rcases A with _ | ⟨b, off, spot⟩
    · exact run_convert_bytes_nil w 22 5 Try.underlying22 Try.underlying5 0 cap 9 Try.underlying9
    · rw [run_convert_bytes_string w 22 9 5 _ 0 cap Try.underlying22 Try.underlying5 Try.underlying9]
      rw [run_bytesToString w _ 0 cap [] (by simp [loadCells, loadCellsFrom])]
      rfl
theorem strB_size (bs : List Nat) : (strB bs).size = bs.length := by unfold strB; rw [strOfNums_size]; simp

theorem Bytes.below {w w' : World} {A : Option Addr} {bs : List Nat} (h : Bytes w A bs) (hb : Below w.heap.size w w') : Bytes w' A bs := by
  refine ⟨h.1, fun hp => ?_⟩
  obtain ⟨ad, rfl, hc⟩ := h.2 hp
  refine ⟨ad, rfl, fun j hj => ?_⟩
  rw [← hc j hj]
  exact hb.cell (World.block_lt_of_cell? w _ (hc j hj))

theorem Bytes.of_row {w : World} {a : Option Addr} {len cap : Nat} {zs : List Int} (h : IsRow .u8 w a len cap zs) :
    ∃ bs : List Nat, bs.length = len ∧ Bytes w a bs ∧ len ≤ cap ∧ cap ≤ maxLen := by
  rcases h with ⟨rfl, rfl, rfl, rfl⟩ | ⟨x, rfl, h1, h2, h3, hc, hw⟩
  · exact ⟨[], rfl, ⟨by simp, fun hp => absurd hp (by decide)⟩, by decide, by decide⟩
  · refine ⟨(zs.take len).map Int.toNat, by simp; omega, ⟨?_, fun hp => ⟨x, rfl, fun j hj => ?_⟩⟩, h1, h2⟩
    · intro c hcm
      obtain ⟨z, hz, rfl⟩ := List.mem_map.1 hcm
      have := fits_u8 (hw z (List.mem_of_mem_take hz))
      omega
    · have hj' : j < len := by simp at hj; omega
      have hjz : j < zs.length := by omega
      rw [hc j hjz]
      have hm : zs.getD j 0 ∈ zs := by
        have e : zs.getD j 0 = zs[j] := by simp [hjz]
        rw [e]; exact List.getElem_mem hjz
      have := fits_u8 (hw _ hm)
      congr 2
      have e : ((zs.take len).map Int.toNat).getD j 0 = (zs.getD j 0).toNat := by
        simp [hj', hjz]
      rw [e]
      omega

theorem below_drewN (w : World) (n : Nat) : Below w.heap.size w (w.drewN n) := ⟨rfl, rfl, rfl, Nat.le_refl _, fun _ _ => rfl⟩

theorem past {w w2 w3 : World} (h : Below w.heap.size w w2) (h3 : Below w2.heap.size w2 w3) : Below w.heap.size w w3 := h.trans (h3.mono h.size)
theorem past_alloc {w w2 : World} (h : Below w.heap.size w w2) (o : Obj) : Below w.heap.size w (w2.alloc o) := h.alloc h.size o
theorem ret_bool {a b : Bool} (h : a = b) : Ending.returned (.bool a) = .returned (.bool b) := by rw [h]

theorem ret2 {a b a' b' : Value} (h1 : a = a') (h2 : b = b') : Ending.returned (.tuple #[a, b]) = .returned (.tuple #[a', b']) := by rw [h1, h2]

theorem min2 (ts : Array TypeId) (t : TypeId) (x y : Int) (W : World) : (Builtin.min_ ts t #[.int .i64 x, .int .i64 y]).run Try.prog W = .ok (.int .i64 (min x y)) W := Lib.run_min_ints W ts t .i64 .i64 x y

/-- The worlds that lie past ws and leave it alone. -/
def SubB (ws : World) : Type := {u : World // Below ws.heap.size ws u}
def SubB.w {ws : World} (u : SubB ws) : World := u.1
theorem SubB.le {ws : World} (u : SubB ws) : Below ws.heap.size ws u.w := u.2
/-- A region that draws its order, whose operations read and whose callees may make memory: one walk, in the text's order. -/
theorem wp_region_calm {P : Program} {id : Nat} {Q : Exit → Act → World → Prop} {a : Act} {w : World} {l : List Oper} (hm : P.follows .mixedOrders = true) (hB : Region.lexB .any l.toArray = true)
    (h : wpQuiet P l.toArray (fun w' => ∃ u : SubB w, w' = u.w) (fun a' => ∀ w', (∃ u : SubB w, w' = u.w) → Q .normal a' w') l a) : (Code.region id l.toArray true).wp P Q a w :=
  wp_region_quiet (C := fun w' => ∃ u : SubB w, w' = u.w) hm hB ⟨⟨w.drew, below_drewN w 1⟩, rfl⟩ (by simpa using h)
theorem calm_call {P : Program} {f : FuncId} {args : Array Value} {ws : World} {u : SubB ws} {v : Value} (h : Calls P f args u.w fun e w' => e = .returned v ∧ Below u.w.heap.size u.w w') :
    Calls P f args u.w fun e w'' => e = .returned v ∧ ∃ u' : SubB ws, w'' = u'.w :=
  h.mono fun _ w' ⟨he, hb⟩ => ⟨he, ⟨w', past u.le hb⟩, rfl⟩
theorem calm_same {P : Program} {f : FuncId} {args : Array Value} {ws : World} {u : SubB ws} {v : Value} (h : Calls P f args u.w fun e w' => e = .returned v ∧ u.w = w') :
    Calls P f args u.w fun e w'' => e = .returned v ∧ ∃ u' : SubB ws, w'' = u'.w :=
  h.mono fun _ w' ⟨he, hb⟩ => ⟨he, u, hb.symm⟩
/-- The bytes of a string made of bytes. -/
theorem strB_get (bs : List Nat) (hb : ∀ c ∈ bs, c < 256) : ∀ j (h : j < (strB bs).size), ((strB bs)[j]'h).toNat = bs.getD j 0 := by
  intro j h
  have hj : j < bs.length := by rw [strB_size] at h; exact h
  have e : (strB bs)[j]'h = UInt8.ofNat (bs.getD j 0) := by
    show (strB bs).data[j] = _
    simp [strB, strOfNums, hj]
  rw [e]
  rw [UInt8.toNat_ofNat']
  exact Nat.mod_eq_of_lt (hb _ (getD_mem hj))
theorem below_box (w : World) (o : Obj) : Below w.heap.size w (w.alloc o) := (Below.refl _ _).alloc (Nat.le_refl _) _
theorem addr_add (b off j : Nat) : (⟨b, off, none⟩ : Addr).add j = ⟨b, off + j, none⟩ := by
  unfold Addr.add
  split
  · next e => rw [e]; rfl
  · rfl
theorem strB_inj {a b : List Nat} (ha : ∀ c ∈ a, c < 256) (hb : ∀ c ∈ b, c < 256) (h : strB a = strB b) : a = b := by
  have hl : a.length = b.length := by rw [← strB_size, ← strB_size, h]
  apply List.ext_getElem hl
  intro j h1 h2
  have k1 := strB_get a ha j (by rw [strB_size]; exact h1)
  have k2 := strB_get b hb j (by rw [strB_size]; exact h2)
  have e : ((strB a)[j]'(by rw [strB_size]; exact h1)).toNat = ((strB b)[j]'(by rw [strB_size]; exact h2)).toNat := by
    simp only [h]
  rw [k1, k2] at e
  simpa [h1, h2] using e
theorem strB_app (a b : List Nat) : strB a ++ strB b = strB (a ++ b) := by
  apply ByteArray.ext
  simp [strB, strOfNums]
theorem grown_then {a b c : World} {row row' : Option Nat} (h : a.grownBy b row) (k : b.grownBy c row') (hr : ∀ j, row' = some j → a.heap.size ≤ j ∨ row = some j) : a.grownBy c row :=
  ⟨k.os.trans h.os, k.tape.trans h.tape, k.output.trans h.output, Nat.le_trans h.size k.size, fun i hi hne => by
    rw [k.block i (Nat.lt_of_lt_of_le hi h.size) (fun e => by
      rcases hr i e.symm with h1 | h1
      · omega
      · exact hne h1.symm)]
    exact h.block i hi hne⟩
/-- A slice (at A, of n bytes, of that room) reads as the bytes bs. -/
structure BRow (w : World) (A : Option Addr) (n cap : Nat) (bs : List Nat) : Prop where
  bytes : Bytes w A bs
  len : bs.length = n
  le : n ≤ cap
  max : cap ≤ maxLen
  nil : A = none → cap = 0
theorem BRow.below {w w' : World} {A : Option Addr} {n cap : Nat} {bs : List Nat} (h : BRow w A n cap bs) (hb : Below w.heap.size w w') : BRow w' A n cap bs := ⟨h.bytes.below hb, h.len, h.le, h.max, h.nil⟩
theorem BRow.none (w : World) : BRow w none 0 0 [] := ⟨⟨fun s hs => by simp at hs, fun h => by simp at h⟩, rfl, Nat.le_refl _, Nat.zero_le _, fun _ => rfl⟩
theorem brow_of_own {w : World} {base n : Nat} {v : Value} {d : List Nat} (h : w.ownsRow base 5 1 v n (bytesV d)) (hb : ∀ c ∈ d, c < 256) : ∃ A cap, v = .slice A n cap ∧ BRow w A n cap d ∧ ∀ a, A = some a → base ≤ a.block := by
  have hn : d.length = n := by have := h.1; rw [bytesV_length] at this; omega
  rcases h.2 with ⟨e, e0⟩ | ⟨g, cap, cur, e, hbg, hh, h1, h2, _⟩
  · subst e0
    obtain rfl : d = [] := List.length_eq_zero_iff.1 hn
    exact ⟨Option.none, 0, e, BRow.none w, fun a h => by cases h⟩
  · subst e
    obtain ⟨s1, s2, s3, s4, s5, s6⟩ := Bytes.own h hb
    exact ⟨some ⟨g, 0, Option.none⟩, cap, rfl, ⟨s1, s2, s3, s4, fun e => by cases e⟩, fun a h => by injection h with h; subst h; exact hbg⟩
theorem BRow.take {w : World} {A : Option Addr} {n cap : Nat} {bs : List Nat} (h : BRow w A n cap bs) {k : Nat} (hk : k ≤ n) : BRow w A k cap (bs.take k) :=
  ⟨h.bytes.take k, by rw [List.length_take, h.len]; omega, Nat.le_trans hk h.le, h.max, h.nil⟩

/-- append(v, x...) of rows of bytes. -/
theorem wpList_append_brow {w : World} {ops : Array Oper} {rest : List Oper} {o : Oper} {a : Act} {Q : Exit → Act → World → Prop} (hgd : o.guard = none) (s x : Operand)
    (ho : o.op = .call { callee := .builtin .append, args := #[s, x], argTypes := #[22, 22] }) (base : Nat) (v : Value) (n m : Nat) (l l2 : List Nat) (hs : a.eval s = v) (hown : w.ownsRow base 5 1 v n (bytesV l))
    (B : Option Addr) (c : Nat) (hx : a.eval x = .slice B m c) (hr : BRow w B m c l2) (hlen : n + m ≤ 100000) (hbase : base ≤ w.heap.size)
    (h : ∀ v' w', w'.ownsRow base 5 1 v' (n + m) (bytesV (l ++ l2)) → w.grownBy w' v.ownBlock → wpList Try.prog ops Q rest (a.put o.dst v') w') : wpList Try.prog ops Q (o :: rest) a w := by
  obtain ⟨i0', hi, hz0, hz1, hz2⟩ := info_parts Try.info5
  have hm := hr.len
  cases B with
  | none =>
    have hc := hr.nil rfl
    subst hc
    obtain rfl : m = 0 := by have := hr.le; omega
    obtain rfl : l2 = [] := List.length_eq_zero_iff.1 hm
    refine wpList_append_own_none hgd s x 22 ho base 5 i0' 1 Try.underlying22 hi v n (bytesV l) hs hown hx ?_
    refine h v w ?_ ⟨rfl, rfl, rfl, Nat.le_refl _, fun _ _ _ => rfl⟩
    rw [List.append_nil]
    exact hown
  | some ad =>
    refine wpList_append_own w hgd s x 22 ho base 5 i0' (.int .u8 0) 1 1 Try.underlying22 hi hz0 hz1 hz2 rfl (by decide) v n (bytesV l) hs hown ad m c (bytesV l2) hx (by rw [bytesV_length, hm]; omega) ?_ (bytesV_one _) (by unfold maxLen; omega) (by omega) hbase ?_
    · intro j u hj
      have hl : j < l2.length := by
        rcases Nat.lt_or_ge j l2.length with e | e
        · exact e
        · rw [List.getElem?_eq_none (by rw [bytesV_length]; exact e)] at hj; cases hj
      obtain ⟨ad', e, hc⟩ := hr.bytes.2 (by omega)
      injection e with e
      subst e
      rw [bytesV_get _ _ hl] at hj
      injection hj with hj
      rw [← hj]
      exact hc j hl
    · intro v' w' h1 h2 _
      exact h v' w' (by rw [bytesV_append]; exact h1) h2

theorem addr_zero (a : Addr) : a.add 0 = a := by
  obtain ⟨b, o, s⟩ := a
  cases s <;> simp [Addr.add]
theorem size29 (w : World) : (Go.sizeOf (Try.prog.elem 22)).run Try.prog w = .ok 1 w := by kernel_rfl
theorem sliceB_hi {A : Option Addr} {n cap k : Nat} (h : k ≤ cap) (w : World) : (Instr.slice 22 (.slice A n cap) none (some (.int .i64 (k : Int))) none).run Try.prog w = .ok (.slice A k cap) w := by
  rw [run_slice_h w 22 A n cap Try.underlying22 .i64 (k : Int) (by omega) (by omega), size29]
  simp only [Result.andThen, sliced]
  congr 2
  · cases A with
    | none => simp
    | some a =>
      split
      · rfl
      · simp [addr_zero]
theorem sliceB_lo {A : Option Addr} {n cap k : Nat} {l : List Nat} {w : World} (hr : BRow w A n cap l) (h : k ≤ n) :
    ∃ A2, (∀ w, (Instr.slice 22 (.slice A n cap) (some (.int .i64 (k : Int))) none none).run Try.prog w = .ok (.slice A2 (n - k) (cap - k)) w) ∧ BRow w A2 (n - k) (cap - k) (l.drop k) := by
  have hc := hr.le
  refine ⟨if cap = k then A else A.map (·.add (k * 1)), fun w => ?_, ⟨⟨fun s hs => hr.bytes.1 s (List.mem_of_mem_drop hs), fun hp => ?_⟩, ?_, ?_, ?_, fun e => ?_⟩⟩
  · rw [run_slice_l w 22 A n cap Try.underlying22 .i64 (k : Int) (by omega) (by omega), size29]
    simp [Result.andThen, sliced]
  · rw [List.length_drop, hr.len] at hp
    obtain ⟨b, off, rfl, hcell⟩ := hr.bytes.at_ (by have := hr.len; omega)
    rw [if_neg (by omega)]
    refine ⟨⟨b, off + k * 1, none⟩, by rw [Option.map_some, addr_add], fun j hj => ?_⟩
    rw [List.length_drop, hr.len] at hj
    rw [addr_add, show off + k * 1 + j = off + (k + j) by omega, hcell (k + j) (by have := hr.len; omega)]
    congr 3
    simp [List.getD_eq_getElem?_getD]
  · rw [List.length_drop, hr.len]
  · omega
  · have := hr.max; omega
  · split at e
    · have := hr.nil e; omega
    · have := hr.nil (by cases A with
        | none => rfl
        | some a => simp at e)
      omega

theorem strB_eq {a b : List Nat} (ha : ∀ c ∈ a, c < 256) (hb : ∀ c ∈ b, c < 256) : ((strB a).toList == (strB b).toList) = decide (a = b) := by
  rw [Bool.eq_iff_iff, beq_iff_eq, decide_eq_true_eq]
  rw [Lib.toList_data, Lib.toList_data]
  exact ⟨fun e => strB_inj ha hb (ByteArray.ext (Array.toList_inj.1 e)), fun h => by rw [h]⟩
theorem grown_of {w w' : World} (h : Below w.heap.size w w') (row : Option Nat) : w.grownBy w' row := ⟨h.os, h.tape, h.output, h.size, fun k hk _ => h.block k hk⟩
/-- A row of bytes of the call's own, made from block base on. -/
def ownB (w : World) (base g cap : Nat) (d : List Nat) : Prop := w.ownsRow base 5 1 (.slice (some ⟨g, 0, none⟩) d.length cap) d.length (bytesV d)
end Go.Proofs.Ytofjealjecfkiaa
