/-
  Rows of bytes that came in or were made, bytes as a string; vary's calls at a row's beginning.
-/
import Derived.Test.YtdpoahjgdndnhaaDoorVGet
import Derived.Laws.BytesArg
import Derived.Deep.QuietTactic
import Derived.BigQuiet
namespace Go.Proofs.YtdpoahjgdndnhaaDoor
open Go.RowKit

theorem get_nat (A : Option Addr) (len cap : Nat) (bs : List Nat) (p : Nat) (w : World) (hl : bs.length = len) (hB : Bytes w A bs) (hc : len ≤ cap) (hm : cap ≤ maxLen) (hp : p ≤ len) :
    Calls Tryd.prog 78 #[.slice A len cap, .int .i64 (p : Int)] w fun e w' => e = getE p (dec 0 0 (bs.drop p)) ∧ w = w' := by
  by_cases h : p < len
  · obtain ⟨b, off, rfl, hcell⟩ := hB.at_ (by omega)
    exact get_in b off len cap bs p w hl hB.1 hc hm h (by rw [← hl]; exact hcell)
  · obtain rfl : p = len := by omega
    have e : dec 0 0 (bs.drop p) = none := by rw [List.drop_eq_nil_of_le (by omega)]; rfl
    rw [e]
    exact get_end A p cap w hc

theorem get_some {A : Option Addr} {len cap : Nat} {bs : List Nat} {p v k : Nat} {w : World} (hl : bs.length = len) (hB : Bytes w A bs) (hc : len ≤ cap) (hm : cap ≤ maxLen) (hp : p ≤ len)
    (hd : dec 0 0 (bs.drop p) = some (v, k)) :
    Calls Tryd.prog 78 #[.slice A len cap, .int .i64 (p : Int)] w fun e w' => e = .returned (.tuple #[.int .u64 (v : Int), .int .i64 ((p + k : Nat) : Int), .int .i64 0]) ∧ w = w' := by
  have := get_nat A len cap bs p w hl hB hc hm hp
  rw [hd] at this
  exact this

theorem get_none {A : Option Addr} {len cap : Nat} {bs : List Nat} {p : Nat} {w : World} (hl : bs.length = len) (hB : Bytes w A bs) (hc : len ≤ cap) (hm : cap ≤ maxLen) (hp : p ≤ len)
    (hd : dec 0 0 (bs.drop p) = none) :
    Calls Tryd.prog 78 #[.slice A len cap, .int .i64 (p : Int)] w fun e w' => e = .returned (.tuple #[.int .u64 0, .int .i64 (p : Int), .int .i64 2]) ∧ w = w' := by
  have := get_nat A len cap bs p w hl hB hc hm hp
  rw [hd] at this
  exact this

/-- What a row of the call's own that holds bytes gives a reader. -/
theorem Bytes.own {w : World} {base g n cap : Nat} {bs : List Nat} (h : w.ownsRow base 5 1 (.slice (some ⟨g, 0, none⟩) n cap) n (bytesV bs)) (hb : ∀ c ∈ bs, c < 256) :
    Bytes w (some ⟨g, 0, none⟩) bs ∧ bs.length = n ∧ n ≤ cap ∧ cap ≤ maxLen ∧ base ≤ g ∧ g < w.heap.size := by
  have hn : bs.length = n := by have := h.1; rw [bytesV_length] at this; omega
  refine ⟨⟨hb, fun hp => ⟨_, rfl, fun j hj => ?_⟩⟩, hn, ?_⟩
  · refine h.cells (g := g) rfl j _ ?_
    unfold bytesV
    simp [hj]
  · rcases h.2 with ⟨e, _⟩ | ⟨g', cap', cur, e, hbg, hh, h1, h2, _⟩
    · cases e
    · injection e with e1 e2 e3
      injection e1 with e1
      injection e1 with e1
      subst e1 e3
      refine ⟨h1, h2, hbg, ?_⟩
      rcases Nat.lt_or_ge g w.heap.size with hlt | hge
      · exact hlt
      · rw [Array.getElem?_eq_none hge] at hh; cases hh

theorem Bytes.keep {w w' : World} {A : Option Addr} {bs : List Nat} {B : Nat} (h : Bytes w A bs) (hb : Below B w w') (hA : ∀ ad, A = some ad → ad.block < B) : Bytes w' A bs := by
  refine ⟨h.1, fun hp => ?_⟩
  obtain ⟨ad, rfl, hc⟩ := h.2 hp
  refine ⟨ad, rfl, fun j hj => ?_⟩
  rw [← hc j hj]
  refine hb.cell ?_
  have := hA ad rfl
  unfold Addr.add
  split <;> exact this


theorem vfits_i64 {a : Int} (h : (Lit.int .i64 a).wf = true) : -9223372036854775808 ≤ a ∧ a ≤ 9223372036854775807 := by
  simpa [Lit.wf, IntKind.min, IntKind.max, IntKind.bits, IntKind.signed] using h
theorem fits_u64 {a : Int} (h : (Lit.int .u64 a).wf = true) : 0 ≤ a ∧ a ≤ 18446744073709551615 := by
  simpa [Lit.wf, IntKind.min, IntKind.max, IntKind.bits, IntKind.signed] using h
theorem fits_u8 {a : Int} (h : (Lit.int .u8 a).wf = true) : 0 ≤ a ∧ a ≤ 255 := by
  simpa [Lit.wf, IntKind.min, IntKind.max, IntKind.bits, IntKind.signed] using h

/-- A slice of integers that came in: nil, or a row of 'cap' cells, the first 'len' of them its elements. -/
def IsRow (k : IntKind) (w : World) (a : Option Addr) (len cap : Nat) (zs : List Int) : Prop :=
  (a = none ∧ len = 0 ∧ cap = 0 ∧ zs = []) ∨
  ∃ x, a = some x ∧ len ≤ cap ∧ cap ≤ maxLen ∧ zs.length = cap ∧ (∀ i, i < zs.length → w.cell? (x.add i) = some (.int k (zs.getD i 0))) ∧ ∀ n ∈ zs, (Lit.int k n).wf = true

theorem bytesV_set (l : List Nat) (j d : Nat) : (bytesV l).set j (.int .u8 (d : Int)) = bytesV (l.set j d) := by
  unfold bytesV; rw [List.map_set]
theorem bytesV_get (l : List Nat) (j : Nat) (h : j < l.length) : (bytesV l)[j]? = some (.int .u8 ((l.getD j 0 : Nat) : Int)) := by
  unfold bytesV; simp [h]
theorem or128b (c : Nat) (h : c < 256) : bits .or .u8 (c : Int) 128 = ((c % 128 + 128 : Nat) : Int) := by
  have := or128 c
  rw [show (c : Int) % 256 = (c : Int) by omega] at this
  exact this
theorem bytesV_one (l : List Nat) : ∀ u ∈ bytesV l, u.oneCell' = true := by
  intro u hu
  unfold bytesV at hu
  obtain ⟨c, _, rfl⟩ := List.mem_map.1 hu
  rfl
theorem vwrap_nat (a : Int) : ∃ U : Nat, IntKind.u64.wrap a = (U : Int) := by
  refine ⟨(IntKind.u64.wrap a).toNat, ?_⟩
  rw [IntKind.wrap_u64]
  omega
theorem Bytes.take {w : World} {A : Option Addr} {bs : List Nat} (h : Bytes w A bs) (k : Nat) : Bytes w A (bs.take k) := by
  refine ⟨fun c hc => h.1 c (List.mem_of_mem_take hc), fun hp => ?_⟩
  have hp' : 0 < bs.length := by rw [List.length_take] at hp; omega
  obtain ⟨ad, e, hc⟩ := h.2 hp'
  refine ⟨ad, e, fun j hj => ?_⟩
  rw [List.length_take] at hj
  rw [hc j (by omega)]
  congr 3
  rw [List.getD_eq_getElem?_getD, List.getD_eq_getElem?_getD, List.getElem?_take, if_pos (by omega)]

theorem addr0 (g k : Nat) : (⟨g, 0, none⟩ : Addr).add k = ⟨g, k, none⟩ := by
  unfold Addr.add
  split
  · next e => rw [e]
  · simp
/-- Bytes as a string. -/
def strB (bs : List Nat) : ByteArray := strOfNums (bs.map fun c : Nat => (c : Int))

theorem conv_bytes {w : World} {A : Option Addr} {bs : List Nat} (h : Bytes w A bs) (n cap : Nat) (hn : bs.length = n) :
    (convert 26 9 (.slice A n cap)).run Tryd.prog w = .ok (.string (strB bs)) w := by
  by_cases hp : 0 < bs.length
  · obtain ⟨b, off, rfl, hc⟩ := h.at_ hp
    refine run_convert_bytes_arg w 26 5 Tryd.underlying26 Tryd.underlying5 b off n cap _ (by simpa using hn) ?_ 9 Tryd.underlying9
    intro i hi
    rw [hc i (by omega)]
    congr 2
    have : i < bs.length := by omega
    simp [this]
  · have e : bs = [] := List.eq_nil_of_length_eq_zero (by omega)
    subst e
    simp at hn
    subst hn
    rcases A with _ | ⟨b, off, spot⟩
    · exact run_convert_bytes_nil w 26 5 Tryd.underlying26 Tryd.underlying5 0 cap 9 Tryd.underlying9
    · rw [run_convert_bytes_string w 26 9 5 _ 0 cap Tryd.underlying26 Tryd.underlying5 Tryd.underlying9]
      rw [run_bytesToString w _ 0 cap [] (by simp [loadCells, loadCellsFrom])]
      rfl
theorem strB_size (bs : List Nat) : (strB bs).size = bs.length := by unfold strB; rw [strOfNums_size]; simp

theorem Bytes.below {w w' : World} {A : Option Addr} {bs : List Nat} (h : Bytes w A bs) (hb : Below w.heap.size w w') : Bytes w' A bs := by
  refine ⟨h.1, fun hp => ?_⟩
  obtain ⟨ad, rfl, hc⟩ := h.2 hp
  refine ⟨ad, rfl, fun j hj => ?_⟩
  rw [← hc j hj]
  exact hb.cell (World.block_lt_of_cell? w _ (hc j hj))

theorem Bytes.of_row {w : World} {a : Option Addr} {len cap : Nat} {zs : List Int} (h : IsRow .u8 w a len cap zs) :
    ∃ bs : List Nat, bs.length = len ∧ Bytes w a bs ∧ len ≤ cap ∧ cap ≤ maxLen := by
  rcases h with ⟨rfl, rfl, rfl, rfl⟩ | ⟨x, rfl, h1, h2, h3, hc, hw⟩
  · exact ⟨[], rfl, ⟨by simp, fun hp => absurd hp (by decide)⟩, by decide, by decide⟩
  · refine ⟨(zs.take len).map Int.toNat, by simp; omega, ⟨?_, fun hp => ⟨x, rfl, fun j hj => ?_⟩⟩, h1, h2⟩
    · intro c hcm
      obtain ⟨z, hz, rfl⟩ := List.mem_map.1 hcm
      have := fits_u8 (hw z (List.mem_of_mem_take hz))
      omega
    · have hj' : j < len := by simp at hj; omega
      have hjz : j < zs.length := by omega
      rw [hc j hjz]
      have hm : zs.getD j 0 ∈ zs := by
        have e : zs.getD j 0 = zs[j] := by simp [hjz]
        rw [e]; exact List.getElem_mem hjz
      have := fits_u8 (hw _ hm)
      congr 2
      have e : ((zs.take len).map Int.toNat).getD j 0 = (zs.getD j 0).toNat := by
        simp [hj', hjz]
      rw [e]
      omega

theorem vbelowN (w : World) (n : Nat) : Below w.heap.size w (w.drewN n) := ⟨rfl, rfl, rfl, Nat.le_refl _, fun _ _ => rfl⟩
theorem conv_of {w w' : World} {A : Option Addr} {bs : List Nat} {k v len cap : Nat} (h : Bytes w A bs) (e : bs.take k = enc v) (hl : bs.length = len) (hk : k ≤ len) (hb : Below w.heap.size w w') :
    (convert 26 9 (.slice A k cap)).run Tryd.prog w' = .ok (.string (strB (enc v))) w' := by
  rw [← e]
  exact conv_bytes ((h.below hb).take k) k cap (by rw [List.length_take]; omega)
theorem get_z {A : Option Addr} {len cap : Nat} {bs : List Nat} {v k : Nat} {w : World} (hl : bs.length = len) (hB : Bytes w A bs) (hc : len ≤ cap) (hm : cap ≤ maxLen) (hd : dec 0 0 bs = some (v, k)) :
    Calls Tryd.prog 78 #[.slice A len cap, .int .i64 0] w fun e w' => e = .returned (.tuple #[.int .u64 (v : Int), .int .i64 (k : Int), .int .i64 0]) ∧ w = w' := by
  have := get_some (p := 0) hl hB hc hm (Nat.zero_le _) hd
  rw [Nat.zero_add] at this
  exact this
theorem get_y {A : Option Addr} {len cap : Nat} {bs : List Nat} {w : World} (hl : bs.length = len) (hB : Bytes w A bs) (hc : len ≤ cap) (hm : cap ≤ maxLen) (hd : dec 0 0 bs = none) :
    Calls Tryd.prog 78 #[.slice A len cap, .int .i64 0] w fun e w' => e = .returned (.tuple #[.int .u64 0, .int .i64 0, .int .i64 2]) ∧ w = w' :=
  get_none (p := 0) hl hB hc hm (Nat.zero_le _) hd
theorem size_nat (n : Nat) (w : World) (h : n < 18446744073709551616) :
    Calls Tryd.prog 80 #[.int .u64 (n : Int)] w fun e w' => e = .returned (.int .i64 ((enc n).length : Int)) ∧ w = w' := size_any (n : Int) w (by omega) (by omega)
end Go.Proofs.YtdpoahjgdndnhaaDoor
