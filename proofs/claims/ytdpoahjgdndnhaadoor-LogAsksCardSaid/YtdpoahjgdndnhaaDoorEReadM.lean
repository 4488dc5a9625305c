/-
  Plain: what is read of bytes; an entry comes back from its bytes, and from no others. No program in it.
-/
import Derived.Test.YtdpoahjgdndnhaaDoorEMath
namespace Go.Proofs.YtdpoahjgdndnhaaDoor

/-- A number at the beginning, and what stands behind it. -/
def numT (bs : List Nat) : Nat × List Nat :=
  match dec 0 0 bs with
  | some (v, k) => (v, bs.drop k)
  | none => (0, bs)
def bytesU (bs : List Nat) : List UInt8 := bs.map UInt8.ofNat
/-- A text at the beginning. -/
def textT (bs : List Nat) : List UInt8 := if (numT bs).1 > (numT bs).2.length then [] else bytesU ((numT bs).2.take (numT bs).1)
/-- An int out of 64 bits. -/
def toI (n : Nat) : Int := if n < 9223372036854775808 then (n : Int) else (n : Int) - 18446744073709551616
/-- What bytes say. -/
def readE : List Nat → Ent
  | [] => Ent.zero
  | c :: r =>
    let v := numT r
    if c = 1 then
      let a := numT v.2
      let b := numT a.2
      let d := numT b.2
      let e := numT d.2
      let s := numT e.2
      ⟨1, toI v.1, toI a.1, toI b.1, toI d.1, toI e.1, ((s.1 % 4294967296 : Nat) : Int), []⟩
    else if c = 2 then ⟨2, toI v.1, toI (numT v.2).1, 0, 0, 0, 0, []⟩
    else if c = 4 then ⟨4, toI v.1, 0, 0, 0, 0, 0, textT v.2⟩
    else ⟨(c : Int), toI v.1, 0, 0, 0, 0, 0, []⟩
/-- The entry whose bytes these are. -/
def getE2 (bs : List Nat) : Ent × Int := if (readE bs).put = (bs, 0) then (readE bs, 0) else (Ent.zero, 2)

theorem numT_enc (n : Nat) (r : List Nat) (h : n < 18446744073709551616) : numT (enc n ++ r) = (n, r) := by
  unfold numT
  rw [dec_enc0 n r h]
  simp
theorem toI_nat {n : Nat} (h : n < 9223372036854775808) : toI n = (n : Int) := by unfold toI; rw [if_pos h]
theorem bytesU_text (l : List UInt8) : bytesU (textB l) = l := by
  unfold bytesU textB
  rw [List.map_map]
  conv => rhs; rw [← List.map_id l]
  apply List.map_congr_left
  intro a _
  simp
theorem numT_nums (n : Nat) (l r : List Nat) (h : n < 18446744073709551616) : numT (numsB (n :: l) ++ r) = (n, numsB l ++ r) := by
  rw [show numsB (n :: l) ++ r = enc n ++ (numsB l ++ r) by simp [numsB], numT_enc n _ h]

theorem read_bytes {e : Ent} (h : e.may) (ho : e.ok) : readE e.bytes = e := by
  obtain ⟨hv, hown, hs⟩ := h
  obtain ⟨kd, vw, id, tr, fr, tl, sm, tx⟩ := e
  have hsm : 0 ≤ sm ∧ sm ≤ 4294967295 := ho.2.2.2.2.2.2.1
  simp only at hv
  unfold Ent.says at hs
  unfold Ent.own at hown
  simp only at hs hown
  by_cases k1 : kd = 1
  · subst k1
    rw [if_pos rfl] at hs hown
    simp only [idOk] at hs
    have htx : tx = [] := by injection hown
    subst htx
    have e1 : Ent.bytes ⟨1, vw, id, tr, fr, tl, sm, []⟩ = 1 :: (numsB [vw.toNat, id.toNat, tr.toNat, fr.toNat, tl.toNat, sm.toNat] ++ []) := by
      unfold Ent.bytes Ent.nums textB; simp
    rw [e1, readE]
    simp only
    rw [numT_nums _ _ _ (by omega), numT_nums _ _ _ (by omega), numT_nums _ _ _ (by omega), numT_nums _ _ _ (by omega), numT_nums _ _ _ (by omega), numT_nums _ _ _ (by omega)]
    simp only [if_true]
    rw [toI_nat (by omega), toI_nat (by omega), toI_nat (by omega), toI_nat (by omega), toI_nat (by omega)]
    have hm : ((sm.toNat % 4294967296 : Nat) : Int) = sm := by omega
    rw [hm]
    congr 1 <;> omega
  · rw [if_neg k1] at hs hown
    by_cases k2 : kd = 2
    · subst k2
      rw [if_pos rfl] at hs hown
      simp only [idOk] at hs
      injection hown with _ _ _ h4 h5 h6 h7 h8
      subst h4 h5 h6 h7 h8
      have e1 : Ent.bytes ⟨2, vw, id, 0, 0, 0, 0, []⟩ = 2 :: (numsB [vw.toNat, id.toNat] ++ []) := by
        unfold Ent.bytes Ent.nums textB; simp
      rw [e1, readE]
      simp only
      rw [numT_nums _ _ _ (by omega), numT_nums _ _ _ (by omega)]
      simp only [if_true]
      rw [if_neg (by decide), toI_nat (by omega), toI_nat (by omega)]
      congr 1 <;> omega
    · rw [if_neg k2] at hs hown
      by_cases k3 : kd = 3
      · subst k3
        rw [if_neg (by decide)] at hown
        injection hown with _ _ h3 h4 h5 h6 h7 h8
        subst h3 h4 h5 h6 h7 h8
        have e1 : Ent.bytes ⟨3, vw, 0, 0, 0, 0, 0, []⟩ = 3 :: (numsB [vw.toNat] ++ []) := by
          unfold Ent.bytes Ent.nums textB; simp
        rw [e1, readE]
        simp only
        rw [numT_nums _ _ _ (by omega), if_neg (by decide), if_neg (by decide), if_neg (by decide), toI_nat (by omega)]
        congr 1
        omega
      · rw [if_neg k3] at hs
        by_cases k4 : kd = 4
        · subst k4
          rw [if_pos rfl] at hs hown
          injection hown with _ _ h3 h4 h5 h6 h7 _
          subst h3 h4 h5 h6 h7
          have hl : tx.length ≤ 300 := hs.1
          have e1 : Ent.bytes ⟨4, vw, 0, 0, 0, 0, 0, tx⟩ = 4 :: (numsB [vw.toNat, tx.length] ++ textB tx) := by
            unfold Ent.bytes Ent.nums; simp
          rw [e1, readE]
          simp only
          rw [numT_nums _ _ _ (by omega), if_neg (by decide), if_neg (by decide), if_pos trivial, toI_nat (by omega)]
          have ht : textT (numsB [tx.length] ++ textB tx) = tx := by
            have e2 := numT_nums tx.length [] (textB tx) (by omega)
            unfold textT
            rw [e2]
            have e3 : numsB [] ++ textB tx = textB tx := rfl
            rw [e3]
            have e4 : (textB tx).length = tx.length := by simp [textB]
            simp only
            rw [if_neg (by omega), List.take_of_length_le (by omega)]
            exact bytesU_text tx
          rw [ht]
          congr 1
          omega
        · rw [if_neg k4] at hs
          exact hs.elim
theorem put_ok_iff {e : Ent} {bs : List Nat} : e.put = (bs, 0) ↔ e.may ∧ e.bytes = bs := by
  unfold Ent.put
  split
  · next h => simp [h]
  · next h => simp [h]
theorem get_bytes {e : Ent} (h : e.may) (ho : e.ok) : getE2 e.bytes = (e, 0) := by
  unfold getE2
  rw [read_bytes h ho, if_pos (put_ok_iff.2 ⟨h, rfl⟩)]
theorem get_only {bs : List Nat} (h : (getE2 bs).2 = 0) : (getE2 bs).1.may ∧ (getE2 bs).1.bytes = bs := by
  unfold getE2 at *
  split
  · next h1 => exact put_ok_iff.1 h1
  · next h1 => rw [if_neg h1] at h; simp at h
theorem get_not {bs : List Nat} (h : (getE2 bs).2 ≠ 0) : getE2 bs = (Ent.zero, 2) := by
  unfold getE2 at *
  split
  · next h1 => rw [if_pos h1] at h; simp at h
  · rfl
theorem toI_in (n : Nat) (h : n < 18446744073709551616) : In64 (toI n) := by unfold toI In64; split <;> omega
end Go.Proofs.YtdpoahjgdndnhaaDoor
