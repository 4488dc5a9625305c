/-
  Entries come back from their bytes, and from no others.
-/
import Derived.Test.YtdpoahjgdndnhaaDoorEGetE
set_option maxRecDepth 100000
namespace Go.Proofs.YtdpoahjgdndnhaaDoor
set_option linter.unusedVariables false

theorem read_more {e : Ent} (h : e.may) (ho : e.ok) (q : List Nat) : readE (e.bytes ++ q) = e := by
  obtain ⟨hv, hown, hs⟩ := h
  obtain ⟨kd, vw, id, tr, fr, tl, sm, tx⟩ := e
  have hsm : 0 ≤ sm ∧ sm ≤ 4294967295 := ho.2.2.2.2.2.2.1
  simp only at hv
  unfold Ent.says at hs
  unfold Ent.own at hown
  simp only at hs hown
  by_cases k1 : kd = 1
  · subst k1
    rw [if_pos rfl] at hs hown
    simp only [idOk] at hs
    have htx : tx = [] := by injection hown
    subst htx
    have e1 : Ent.bytes ⟨1, vw, id, tr, fr, tl, sm, []⟩ ++ q = 1 :: (numsB [vw.toNat, id.toNat, tr.toNat, fr.toNat, tl.toNat, sm.toNat] ++ q) := by
      unfold Ent.bytes Ent.nums textB; simp
    rw [e1, readE]
    simp only
    rw [numT_nums _ _ _ (by omega), numT_nums _ _ _ (by omega), numT_nums _ _ _ (by omega), numT_nums _ _ _ (by omega), numT_nums _ _ _ (by omega), numT_nums _ _ _ (by omega)]
    simp only [if_true]
    rw [toI_nat (by omega), toI_nat (by omega), toI_nat (by omega), toI_nat (by omega), toI_nat (by omega)]
    have hm : ((sm.toNat % 4294967296 : Nat) : Int) = sm := by omega
    rw [hm]
    congr 1 <;> omega
  · rw [if_neg k1] at hs hown
    by_cases k2 : kd = 2
    · subst k2
      rw [if_pos rfl] at hs hown
      simp only [idOk] at hs
      injection hown with _ _ _ h4 h5 h6 h7 h8
      subst h4 h5 h6 h7 h8
      have e1 : Ent.bytes ⟨2, vw, id, 0, 0, 0, 0, []⟩ ++ q = 2 :: (numsB [vw.toNat, id.toNat] ++ q) := by
        unfold Ent.bytes Ent.nums textB; simp
      rw [e1, readE]
      simp only
      rw [numT_nums _ _ _ (by omega), numT_nums _ _ _ (by omega)]
      simp only [if_true]
      rw [if_neg (by decide), toI_nat (by omega), toI_nat (by omega)]
      congr 1 <;> omega
    · rw [if_neg k2] at hs hown
      by_cases k3 : kd = 3
      · subst k3
        rw [if_neg (by decide)] at hown
        injection hown with _ _ h3 h4 h5 h6 h7 h8
        subst h3 h4 h5 h6 h7 h8
        have e1 : Ent.bytes ⟨3, vw, 0, 0, 0, 0, 0, []⟩ ++ q = 3 :: (numsB [vw.toNat] ++ q) := by
          unfold Ent.bytes Ent.nums textB; simp
        rw [e1, readE]
        simp only
        rw [numT_nums _ _ _ (by omega), if_neg (by decide), if_neg (by decide), if_neg (by decide), toI_nat (by omega)]
        congr 1
        omega
      · rw [if_neg k3] at hs
        by_cases k4 : kd = 4
        · subst k4
          rw [if_pos rfl] at hs hown
          injection hown with _ _ h3 h4 h5 h6 h7 _
          subst h3 h4 h5 h6 h7
          have hl : tx.length ≤ 300 := hs.1
          have e1 : Ent.bytes ⟨4, vw, 0, 0, 0, 0, 0, tx⟩ ++ q = 4 :: (numsB [vw.toNat, tx.length] ++ (textB tx ++ q)) := by
            unfold Ent.bytes Ent.nums; simp
          rw [e1, readE]
          simp only
          rw [numT_nums _ _ _ (by omega), if_neg (by decide), if_neg (by decide), if_pos trivial, toI_nat (by omega)]
          have ht : textT (numsB [tx.length] ++ (textB tx ++ q)) = tx := by
            have e2 := numT_nums tx.length [] (textB tx ++ q) (by omega)
            unfold textT
            rw [e2]
            have e3 : numsB [] ++ (textB tx ++ q) = textB tx ++ q := rfl
            rw [e3]
            have e4 : (textB tx).length = tx.length := by simp [textB]
            simp only
            rw [if_neg (by rw [List.length_append]; omega), List.take_append_of_le_length (by omega), List.take_of_length_le (by omega)]
            exact bytesU_text tx
          rw [ht]
          congr 1
          omega
        · rw [if_neg k4] at hs
          exact hs.elim

/-- No entry's bytes begin another's. -/
theorem bytes_free {e d : Ent} (he : e.may) (heo : e.ok) (hd : d.may) (hdo : d.ok) {q : List Nat} (h : e.bytes ++ q = d.bytes) : e = d ∧ q = [] := by
  have h1 := read_more he heo q
  rw [h, read_bytes hd hdo] at h1
  subst h1
  refine ⟨rfl, ?_⟩
  have := congrArg List.length h
  rw [List.length_append] at this
  exact List.length_eq_zero_iff.1 (by omega)
theorem bytes_len (e : Ent) : 0 < e.bytes.length := by unfold Ent.bytes; simp
theorem getE2_ok {bs : List Nat} (hb : ∀ c ∈ bs, c < 256) (hl : bs.length ≤ 140737488355328) : (getE2 bs).1.ok := by
  unfold getE2
  split
  · exact readE_ok hb hl
  · decide
/-- Cut off, it is no entry. -/
theorem get_front {a : Ent} (ha : a.may) (ho : a.ok) (hb : ∀ c ∈ a.bytes, c < 256) (hl : a.bytes.length ≤ 140737488355328) {k : Nat} (hk : k < a.bytes.length) : (getE2 (a.bytes.take k)).2 = 2 := by
  by_cases h : (getE2 (a.bytes.take k)).2 = 0
  · obtain ⟨h1, h2⟩ := get_only h
    have hok := getE2_ok (bs := a.bytes.take k) (fun c hc => hb c (List.mem_of_mem_take hc)) (by rw [List.length_take]; omega)
    have hq : (getE2 (a.bytes.take k)).1.bytes ++ a.bytes.drop k = a.bytes := by rw [h2]; exact List.take_append_drop k a.bytes
    have h3 := (bytes_free h1 hok ha ho hq).2
    have := congrArg List.length h3
    rw [List.length_drop] at this
    simp at this
    omega
  · rw [get_not h]
/-- With bytes behind, it is no entry. -/
theorem get_behind {a : Ent} (ha : a.may) (ho : a.ok) (hb : ∀ c ∈ a.bytes, c < 256) (hl : a.bytes.length < 140737488355328) {c : Nat} (hc : c < 256) : (getE2 (a.bytes ++ [c])).2 = 2 := by
  by_cases h : (getE2 (a.bytes ++ [c])).2 = 0
  · obtain ⟨h1, h2⟩ := get_only h
    have hok := getE2_ok (bs := a.bytes ++ [c]) (fun d hd => by
      rw [List.mem_append] at hd
      rcases hd with hd | hd
      · exact hb d hd
      · simp at hd; omega) (by rw [List.length_append]; simp; omega)
    have h3 := (bytes_free ha ho h1 hok h2.symm).2
    cases h3
  · rw [get_not h]
/-- Turned, it is another one, or none. -/
theorem get_turned {a : Ent} (ha : a.may) (ho : a.ok) {k : Nat} (hk : k < a.bytes.length) (c : Nat) (h : (getE2 (a.bytes.set k c)).2 = 0) : (getE2 (a.bytes.set k c)).1 = a ↔ c = a.bytes.getD k 0 := by
  obtain ⟨h1, h2⟩ := get_only h
  have hg : a.bytes.getD k 0 = a.bytes[k] := by rw [List.getD_eq_getElem?_getD, List.getElem?_eq_getElem hk]; rfl
  constructor
  · intro e
    rw [e] at h2
    have h3 : (a.bytes.set k c)[k]'(by rw [List.length_set]; exact hk) = c := List.getElem_set_self _
    have h4 : ∀ (l : List Nat) (hl : k < l.length), l = a.bytes → l[k] = a.bytes[k] := fun l hl e => by subst e; rfl
    rw [hg, ← h4 _ (by rw [List.length_set]; exact hk) h2.symm, h3]
  · intro e
    have h3 : a.bytes.set k c = a.bytes := by rw [e, hg]; exact List.set_getElem_self hk
    rw [h3, get_bytes ha ho]
end Go.Proofs.YtdpoahjgdndnhaaDoor
