/-
  Plain: what Make makes of integers: its samples laid from a time on, one after the other.
-/
import Derived.Test.YtepancmkopifpaaDoorGMake
import Derived.Test.YtepancmkopifpaaDoorTMakeD
import Derived.Test.YtepancmkopifpaaDoorHRow
set_option maxRecDepth 100000
namespace Go.Proofs.YtepancmkopifpaaDoor
open Go.RowKit
set_option linter.unusedVariables false

theorem sampV_set2 (l : List (Int × Int)) (t v : Int) : ∀ j, j < l.length → ((sampV l).set (j * 2) (.int .i64 t)).set (j * 2 + 1) (.int .i64 v) = sampV (l.set j (t, v)) := by
  induction l with
  | nil => intro j hj; simp at hj
  | cons s r ih =>
    intro j hj
    have e : sampV (s :: r) = .int .i64 s.1 :: .int .i64 s.2 :: sampV r := rfl
    rw [e]
    match j with
    | 0 => rfl
    | j + 1 =>
      rw [show (j + 1) * 2 + 1 = j * 2 + 1 + 1 + 1 by omega, show (j + 1) * 2 = j * 2 + 1 + 1 by omega]
      simp only [List.set_cons_succ]
      rw [ih j (by simpa using hj)]
      rfl
/-- The row on the way: the first k are laid. -/
def midS (f : Int) (l : List (Int × Int)) (k : Nat) : List (Int × Int) := shiftL f (l.take k) ++ l.drop k
theorem midS_zero (f : Int) (l : List (Int × Int)) : midS f l 0 = l := by simp [midS, shiftL]
theorem midS_all (f : Int) (l : List (Int × Int)) : midS f l l.length = shiftL f l := by simp [midS]
theorem midS_len (f : Int) (l : List (Int × Int)) (k : Nat) : (midS f l k).length = l.length := by
  unfold midS
  rw [List.length_append, shift_len, List.length_take, List.length_drop]
  omega
theorem midS_get (f : Int) (l : List (Int × Int)) (k : Nat) (hk : k < l.length) : (midS f l k).getD k (0, 0) = l.getD k (0, 0) := by
  have h1 : (shiftL f (l.take k)).length = k := by rw [shift_len, List.length_take]; omega
  unfold midS
  rw [List.getD_eq_getElem?_getD, List.getD_eq_getElem?_getD, List.getElem?_append_right (by omega), h1, List.getElem?_drop]
  simp
theorem midS_succ (f : Int) (l : List (Int × Int)) (k : Nat) (t v : Int) (hk : k < l.length) (h : l.getD k (0, 0) = (t, v)) : (midS f l k).set k (t + f, bil v) = midS f l (k + 1) := by
  have h1 : (shiftL f (l.take k)).length = k := by rw [shift_len, List.length_take]; omega
  have e : l[k] = (t, v) := by rw [← h]; simp [hk]
  unfold midS
  rw [List.set_append_right _ _ (by omega), h1, Nat.sub_self, List.take_succ_eq_append_getElem hk, e, List.drop_eq_getElem_cons hk, e]
  simp [shiftL]
theorem midS_in {f : Int} {l : List (Int × Int)} (h : ∀ s ∈ l, 0 ≤ s.1 ∧ s.1 ≤ 1000000) (h2 : In2 l) (hf : 0 ≤ f ∧ f ≤ 1000000) (k : Nat) : In2 (midS f l k) := by
  intro s hs
  rcases List.mem_append.1 hs with hs | hs
  · obtain ⟨s', hs', rfl⟩ := mem_shift hs
    have := bil_lt s'.2
    have := h s' (List.mem_of_mem_take hs')
    exact ⟨by unfold In64; simp only; omega, by unfold In64; simp only; omega⟩
  · exact h2 s (List.mem_of_mem_drop hs)
theorem made_form {w : World} {base n : Nat} {v : Value} {xs : List Value} (h : w.ownsRow base 28 2 v n xs) (h0 : 0 < n) : ∃ g cap, v = .slice (some ⟨g, 0, none⟩) n cap ∧ base ≤ g := by
  rcases h.2 with ⟨e, e0⟩ | ⟨g, cap, cur, e, h1, _⟩
  · omega
  · exact ⟨g, cap, e, h1⟩
/-- What Make takes: the integers, one ahead. -/
def mkN (len0 : Nat) : Nat := min (len0 + 1) 40
def mkL (id : Int) (l0 l1 : List Int) (len0 len1 : Nat) : List (Int × Int) := riL (id :: l0) l1 len1 (mkN len0)
def mkS (id f : Int) (l0 l1 : List Int) (len0 len1 : Nat) : Sg := madeS (1 + (IntKind.u64.wrap id).tmod 1000) f ((IntKind.u64.wrap id).tmod 7) (mkL id l0 l1 len0 len1)
theorem mkN_in (len0 : Nat) : 1 ≤ mkN len0 ∧ mkN len0 ≤ 40 := by unfold mkN; omega
theorem mkL_len (id : Int) (l0 l1 : List Int) (len0 len1 : Nat) : (mkL id l0 l1 len0 len1).length = mkN len0 := riL_len _ _ _ _
/-- What is known of the samples that Rise makes. -/
structure Rows1 (l : List (Int × Int)) (n : Nat) : Prop where
  len : l.length = n
  rise : Rise l
  bits : In2 l
  upto : ∀ s ∈ l, 0 ≤ s.1 ∧ s.1 ≤ 40 * (n : Int)
theorem rows1_of {w wr : World} {l1 : List Int} {len1 n : Nat} {T : Int} {L : List (Int × Int)} {v : Value} (h : MadeInv w wr l1 len1 n T L v) (hT : T ≤ 40 * (n : Int)) : Rows1 L n := by
  refine ⟨h.len, h.rise, h.bits, fun s hs => ?_⟩
  have h1 := ((rise_pair L).1 h.rise).1 s hs
  obtain ⟨j, hj, rfl⟩ := List.mem_iff_getElem.1 hs
  have h2 := h.upto j (by rw [← h.len]; exact hj)
  unfold tAt at h2
  rw [List.getD_eq_getElem?_getD, List.getElem?_eq_getElem hj] at h2
  unfold Ag.begin_ at h1
  simp only [Option.getD_some] at h2
  omega
theorem mod_in (id m : Int) (hm : 0 < m) : 0 ≤ (IntKind.u64.wrap id).tmod m ∧ (IntKind.u64.wrap id).tmod m < m := by
  have h0 : 0 ≤ IntKind.u64.wrap id := by rw [IntKind.wrap_u64]; omega
  exact ⟨Int.tmod_nonneg m h0, Int.tmod_lt_of_pos _ hm⟩
theorem mkS_raw {id f : Int} {l0 l1 : List Int} {len0 len1 : Nat} (h : Rows1 (mkL id l0 l1 len0 len1) (mkN len0)) (hf : 0 ≤ f ∧ f ≤ 1000000) : Raw0 (mkS id f l0 l1 len0 len1) := by
  have hn := mkN_in len0
  have h1 := mod_in id 1000 (by decide)
  have h7 := mod_in id 7 (by decide)
  exact made_raw (by rw [mkL_len]; omega) (by rw [mkL_len]; omega) h.rise (fun s hs => by have := h.upto s hs; omega) hf (by omega) (by omega)
end Go.Proofs.YtepancmkopifpaaDoor
