/-
  The document's own answer for a block's samples: what it returns of every string; nothing that was there is written.
-/
import Derived.Test.YtfojciolhokejaaDoorBRBlk
namespace Go.Proofs.YtfojciolhokejaaDoor
open Go.RowKit
attribute [local go_sem ↓] Go.wp_at_zero Go.wp_at_succ
set_option linter.unusedVariables false

theorem StrIs.eq {s : ByteArray} {bs : List Nat} (h : StrIs s bs) : s = strB bs := by
  obtain ⟨h1, h2, h3, h4⟩ := h
  have e : s.data.size = (strB bs).data.size := by
    have := strB_size bs
    show s.size = (strB bs).size
    omega
  apply ByteArray.ext
  apply Array.ext e
  intro j a b
  have k1 := h4 j a
  have k2 := strB_get bs h2 j b
  exact UInt8.toNat_inj.1 (k1.trans k2.symm)
theorem strB_inj {a b : List Nat} (ha : ∀ c ∈ a, c < 256) (hb : ∀ c ∈ b, c < 256) (h : strB a = strB b) : a = b := by
  have hl : a.length = b.length := by rw [← strB_size, ← strB_size, h]
  apply List.ext_getElem hl
  intro j h1 h2
  have k1 := strB_get a ha j (by rw [strB_size]; exact h1)
  have k2 := strB_get b hb j (by rw [strB_size]; exact h2)
  have e : ((strB a)[j]'(by rw [strB_size]; exact h1)).toNat = ((strB b)[j]'(by rw [strB_size]; exact h2)).toNat := by
    simp only [h]
  rw [k1, k2] at e
  simpa [h1, h2] using e
theorem own_less {w : World} {base base' n : Nat} {V : Value} {xs : List Value} (h : w.ownsRow base 48 2 V n xs) (hb : base' ≤ base) : w.ownsRow base' 48 2 V n xs := by
  refine ⟨h.1, ?_⟩
  rcases h.2 with h | ⟨g, cap, cur, e, hg, r⟩
  · exact Or.inl h
  · exact Or.inr ⟨g, cap, cur, e, Nat.le_trans hb hg, r⟩
theorem own_form {w : World} {base : Nat} {V : Value} {l : List (Int × Int)} (h : w.ownsRow base 48 2 V l.length (sampV l)) (hi : In2 l) : ∃ A cap, V = .slice A l.length cap ∧ Samps w A l ∧ l.length ≤ cap ∧ cap ≤ maxLen := by
  have h2 := h.2
  rcases h2 with ⟨e, h0⟩ | ⟨g, cap, cur, e, _⟩
  · have hl : l = [] := List.eq_nil_of_length_eq_zero h0
    subst hl
    exact ⟨none, 0, e, ⟨by simp, fun h => absurd h (by simp)⟩, Nat.le_refl _, by unfold maxLen; omega⟩
  · subst e
    have := Samps.own h hi
    exact ⟨_, cap, rfl, this.1, this.2.2.1, this.2.2.2.1⟩
/-- What GetBlock returns. -/
def GetPost (w : World) (r : Option (List (Int × Int))) (e : Ending) (w' : World) : Prop :=
  (match r with
    | none => e = .returned (.tuple #[.slice none 0 0, .int .i64 2])
    | some l => ∃ V, e = .returned (.tuple #[V, .int .i64 0]) ∧ w'.ownsRow w.heap.size 48 2 V l.length (sampV l) ∧ In2 l) ∧ Below w.heap.size w w'

set_option maxRecDepth 100000 in
set_option maxHeartbeats 1000000 in
theorem rgetblock_any (bs : List Nat) (s : ByteArray) (w : World) (hs : StrIs s bs) :
    Calls Tryd.prog 12 #[.string s] w (GetPost w (getB bs)) := by
  have MB := Lib.hid (fun g w h => block_any bs g s 0 false w h hs (Nat.zero_le _))
  have HS := Lib.hid hs
  have HC0 : Hid (CAt (w.alloc (.cells #[.string s, .int .i64 0, .bool false] 65)) w.heap.size s 0 false) := Lib.hid (by constructor <;> simp)
  go_enter Tryd.func12, Tryd.ntmps12
  go_wp2_with fail
  refine (MB.out _ _ HC0.out).mono ?_
  rintro e w1 ⟨V, rfl, hown, hin, hc1, _, hg1⟩
  rw [blkAt_zero] at hown hin hc1
  have hsay := blk_says hs.2.1
  generalize blk bs = R at *
  obtain ⟨l, q, bad⟩ := R
  simp only at *
  obtain ⟨A, cap, rfl, hS, h1, h2⟩ := own_form hown hin
  have M1 := Lib.hid (rputblock_any rfl hS h1 h2)
  have HB1 : Hid (Below w.heap.size w w1) := Lib.hid ⟨hg1.os, hg1.tape, hg1.output, Nat.le_trans (by simp) hg1.size, fun k hk => by
    rw [hg1.block k (by simp; omega) (fun e => by injection e with e; omega)]
    exact (past_alloc (Below.refl w.heap.size w) _).block k hk⟩
  have HOWN := Lib.hid (own_less hown (base' := w.heap.size) (by simp))
  have HC1 := Lib.hid hc1
  have HIN := Lib.hid hin
  have HSAY := Lib.hid hsay
  have hne : Hid (BOk l → putB l ≠ bs → ((strB (putB l)).toList == s.toList) = false) := Lib.hid (fun h h2 => by
    rw [HS.out.eq, beq_eq_false_iff_ne]
    intro e
    rw [Lib.toList_data, Lib.toList_data] at e
    exact h2 (strB_inj (putB_byte l) HS.out.2.1 (ByteArray.ext (Array.toList_inj.1 e))))
  have heq : Hid (putB l = bs → strB (putB l) = s) := Lib.hid (fun h => by rw [h]; exact HS.out.eq.symm)
  clear hown hin hc1 hg1 hS hsay hs HC0
  go_wp2_with fail
  refine M1.out.mono ?_
  rintro e w2 ⟨rfl, hb2⟩
  have HB2 : Hid (Below w.heap.size w w2) := Lib.hid (past HB1.out hb2)
  have HOWN2 := Lib.hid (HOWN.out.kept (row := none) (w' := w2) ⟨hb2.os, hb2.tape, hb2.output, hb2.size, fun k hk _ => hb2.block k hk⟩ (by cases (Value.slice A l.length cap).ownBlock <;> simp))
  have cb := (HC1.out.below hb2).c2
  clear hb2
  have HNO : Hid (¬ (bad = false ∧ BOk l ∧ putB l = bs) → GetPost w (getB bs) (.returned (.tuple #[.slice none 0 0, .int .i64 2])) w2) := Lib.hid (fun h => by
    rw [HSAY.out, if_neg h]
    exact ⟨rfl, HB2.out⟩)
  have HYES : Hid (bad = false ∧ BOk l ∧ putB l = bs → GetPost w (getB bs) (.returned (.tuple #[.slice A l.length cap, .int .i64 0])) w2) := Lib.hid (fun h => by
    rw [HSAY.out, if_pos h]
    exact ⟨⟨_, rfl, HOWN2.out, HIN.out⟩, HB2.out⟩)
  cases bad with
  | true =>
    have HQ := Lib.hid (HNO.out (by simp))
    generalize (if BOk l then putB l else []) = X
    generalize (if BOk l then (0 : Int) else 1) = Y
    go_wp2
    (try rw [Exit.noGoto_ret])
    go_ret2
    exact HQ.out
  | false =>
    by_cases hok : BOk l
    · rw [if_pos hok, if_pos hok]
      by_cases hp : putB l = bs
      · have HQ := Lib.hid (HYES.out ⟨rfl, hok, hp⟩)
        rw [heq.out hp]
        go_wp2
        (try rw [Exit.noGoto_ret])
        go_ret2
        exact HQ.out
      · have HQ := Lib.hid (HNO.out (fun h => hp h.2.2))
        have hf := hne.out hok hp
        generalize strB (putB l) = X at *
        go_wp2
        (try rw [Exit.noGoto_ret])
        go_ret2
        exact HQ.out
    · rw [if_neg hok, if_neg hok]
      have HQ := Lib.hid (HNO.out (fun h => hok h.2.1))
      generalize strB [] = X at *
      go_wp2
      (try rw [Exit.noGoto_ret])
      go_ret2
      exact HQ.out
end Go.Proofs.YtfojciolhokejaaDoor
