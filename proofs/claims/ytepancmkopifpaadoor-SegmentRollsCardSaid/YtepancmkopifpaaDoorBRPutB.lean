/-
  The document's own answer for a block's samples: what it returns of every string; nothing that was there is written.
  The document's own answer for windows' bytes: what it returns of every row of windows that may be; nothing that was there is written.
  The document's own answer for windows' bytes, of every row of windows.
-/
import Derived.Test.YtepancmkopifpaaDoorBRBlk
import Derived.Test.YtepancmkopifpaaDoorTRow
namespace Go.Proofs.YtepancmkopifpaaDoor
open Go.RowKit
attribute [local go_sem ↓] Go.wp_at_zero Go.wp_at_succ
set_option linter.unusedVariables false

theorem StrIs.eq {s : ByteArray} {bs : List Nat} (h : StrIs s bs) : s = strB bs := by
  obtain ⟨h1, h2, h3, h4⟩ := h
  have e : s.data.size = (strB bs).data.size := by
    have := strB_size bs
    show s.size = (strB bs).size
    omega
  apply ByteArray.ext
  apply Array.ext e
  intro j a b
  have k1 := h4 j a
  have k2 := strB_get bs h2 j b
  exact UInt8.toNat_inj.1 (k1.trans k2.symm)
theorem strB_inj {a b : List Nat} (ha : ∀ c ∈ a, c < 256) (hb : ∀ c ∈ b, c < 256) (h : strB a = strB b) : a = b := by
  have hl : a.length = b.length := by rw [← strB_size, ← strB_size, h]
  apply List.ext_getElem hl
  intro j h1 h2
  have k1 := strB_get a ha j (by rw [strB_size]; exact h1)
  have k2 := strB_get b hb j (by rw [strB_size]; exact h2)
  have e : ((strB a)[j]'(by rw [strB_size]; exact h1)).toNat = ((strB b)[j]'(by rw [strB_size]; exact h2)).toNat := by
    simp only [h]
  rw [k1, k2] at e
  simpa [h1, h2] using e
theorem own_less {w : World} {base base' n : Nat} {V : Value} {xs : List Value} (h : w.ownsRow base 28 2 V n xs) (hb : base' ≤ base) : w.ownsRow base' 28 2 V n xs := by
  refine ⟨h.1, ?_⟩
  rcases h.2 with h | ⟨g, cap, cur, e, hg, r⟩
  · exact Or.inl h
  · exact Or.inr ⟨g, cap, cur, e, Nat.le_trans hb hg, r⟩
theorem own_form {w : World} {base : Nat} {V : Value} {l : List (Int × Int)} (h : w.ownsRow base 28 2 V l.length (sampV l)) (hi : In2 l) : ∃ A cap, V = .slice A l.length cap ∧ Samps w A l ∧ l.length ≤ cap ∧ cap ≤ maxLen := by
  have h2 := h.2
  rcases h2 with ⟨e, h0⟩ | ⟨g, cap, cur, e, _⟩
  · have hl : l = [] := List.eq_nil_of_length_eq_zero h0
    subst hl
    exact ⟨none, 0, e, ⟨by simp, fun h => absurd h (by simp)⟩, Nat.le_refl _, by unfold maxLen; omega⟩
  · subst e
    have := Samps.own h hi
    exact ⟨_, cap, rfl, this.1, this.2.2.1, this.2.2.2.1⟩
/-- What GetBlock returns. -/
def GetPost (w : World) (r : Option (List (Int × Int))) (e : Ending) (w' : World) : Prop :=
  (match r with
    | none => e = .returned (.tuple #[.slice none 0 0, .int .i64 2])
    | some l => ∃ V, e = .returned (.tuple #[V, .int .i64 0]) ∧ w'.ownsRow w.heap.size 28 2 V l.length (sampV l) ∧ In2 l) ∧ Below w.heap.size w w'

end Go.Proofs.YtepancmkopifpaaDoor
namespace Go.Proofs.YtepancmkopifpaaDoor
open Go.RowKit
attribute [local go_sem ↓] Go.wp_at_zero Go.wp_at_succ
set_option linter.unusedVariables false

theorem wid_three {k : Int} (h : coarse k) : wid k = 5 ∨ wid k = 60 ∨ wid k = 1440 := by
  unfold coarse at h
  unfold wid
  have : k = 1 ∨ k = 2 ∨ k = 3 := by omega
  rcases this with rfl | rfl | rfl <;> simp
theorem al_mod {a : Ag} {k : Int} (hk : coarse k) (hm : a.may) (h : a.fr = flr a.fr k) : a.fr % wid k = 0 := by
  have hb := hm.1
  unfold flr at h
  unfold Ag.begin_ at hb
  split at h
  · omega
  · omega
/-- What the window ahead leaves. -/
def aAhead (W : Int) (l : List Ag) (i : Nat) : Int := match i with | 0 => 0 | j + 1 => (agAt l j).fr / W + 1
def aFrom (W : Int) (l : List Ag) (i : Nat) : List Nat := aOn W (aAhead W l i) (l.drop i)
theorem ag_drop {l : List Ag} {i : Nat} (h : i < l.length) : l.drop i = agAt l i :: l.drop (i + 1) := by
  rw [List.drop_eq_getElem_cons h]
  congr 1
  simp [agAt, h]
theorem aFrom_next {W : Int} {l : List Ag} {i : Nat} (h : i < l.length) : aFrom W l i = aOne W (aAhead W l i) (agAt l i) ++ aFrom W l (i + 1) := by
  unfold aFrom
  rw [ag_drop h, aOn]
  rfl
theorem al_ahead {l : List Ag} {k : Int} {i : Nat} (h : Align l k) (hi : i < l.length) : 0 ≤ aAhead (wid k) l i ∧ aAhead (wid k) l i ≤ (agAt l i).fr / wid k := by
  have hk := h.1
  have h1 := h.2 i hi
  have m1 := al_mod hk h1.1 h1.2.1
  have b1 := h1.1.1
  unfold Ag.begin_ at b1
  match i, hi, h1, m1, b1 with
  | 0, hi, h1, m1, b1 =>
    simp only [aAhead]
    rcases wid_three hk with e | e | e <;> rw [e] <;> omega
  | i + 1, hi, h1, m1, b1 =>
    have h0 := h.2 i (by omega)
    have m0 := al_mod hk h0.1 h0.2.1
    have b0 := h0.1.1
    unfold Ag.begin_ at b0
    have hlt := h1.2.2 (by omega)
    rw [Nat.add_sub_cancel] at hlt
    simp only [aAhead]
    rcases wid_three hk with e | e | e <;> rw [e] at m0 m1 ⊢ <;> omega

/-- What the loop holds. -/
structure APInv (w wr : World) (W : Int) (l : List Ag) (i : Nat) (S : ByteArray) : Prop where
  says : ∃ d : List Nat, S = strB d ∧ putA W l = d ++ bytesOf (aFrom W l i) ∧ d.length ≤ 10 + 70 * i
  below : Below w.heap.size w wr
theorem APInv.next {w wr wr' : World} {W : Int} {l : List Ag} {i : Nat} {S S' : ByteArray} (h : APInv w wr W l i S) {r : List Nat} (hs : aFrom W l i = r ++ aFrom W l (i + 1)) (hr : ∀ m ∈ r, m < 18446744073709551616) (hl : r.length ≤ 7)
    (hS : ∀ d, S = strB d → S' = strB (d ++ bytesOf r)) (hb : Below w.heap.size w wr') : APInv w wr' W l (i + 1) S' := by
  obtain ⟨d, e, e2, hd⟩ := h.says
  refine ⟨⟨d ++ bytesOf r, hS d e, ?_, ?_⟩, hb⟩
  · rw [e2, hs, bytesOf_app]
    simp
  · have := bytesOf_len r hr
    rw [List.length_append]
    omega
theorem sub_nat {x y : Int} (hx : In64 x) (hy : In64 y) (h : y ≤ x) : ∃ N : Nat, (x - y).toNat = N ∧ N < 18446744073709551616 ∧ IntKind.u64.wrap (IntKind.u64.wrap x - IntKind.u64.wrap y) = (N : Int) := by
  refine ⟨_, rfl, ?_, ?_⟩
  · unfold In64 at hx hy
    omega
  · unfold In64 at hx hy
    simp only [IntKind.wrap_u64]
    omega

end Go.Proofs.YtepancmkopifpaaDoor
namespace Go.Proofs.YtepancmkopifpaaDoor
open Go.RowKit
attribute [local go_sem ↓] Go.wp_at_zero Go.wp_at_succ
set_option linter.unusedVariables false

instance (k : Int) (l : List Ag) : Decidable (AOk k l) := by unfold AOk; infer_instance

end Go.Proofs.YtepancmkopifpaaDoor
