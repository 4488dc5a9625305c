/-
  Plain: frames: an entry's bytes, ahead of them their length and a sum; what stands in bytes; a torn row, a turned byte; how far two rows meet. No program in it.
-/
import Derived.Test.YtdpoahjgdndnhaaDoorEBackN
import Derived.Test.YtdpoahjgdndnhaaDoorUMath
set_option maxRecDepth 100000
namespace Go.Proofs.YtdpoahjgdndnhaaDoor
set_option linter.unusedVariables false

def four (n : Nat) : List Nat := [n % 256, n / 256 % 256, n / 65536 % 256, n / 16777216 % 256]
theorem four_len (n : Nat) : (four n).length = 4 := rfl
theorem four_inj {a b : Nat} (ha : a < 4294967296) (hb : b < 4294967296) (h : four a = four b) : a = b := by
  unfold four at h
  injection h with h1 h
  injection h with h2 h
  injection h with h3 h
  injection h with h4 h
  omega
theorem four_byte (n : Nat) : ∀ c ∈ four n, c < 256 := by
  intro c hc
  unfold four at hc
  simp only [List.mem_cons, List.not_mem_nil, or_false] at hc
  omega
theorem more32 (s : Nat) (b : List Nat) : more s b < 4294967296 := by have := more_lt s b; omega

/-- The frame of these bytes. -/
def frm (bs : List Nat) : List Nat := enc bs.length ++ (four (more 1 (enc bs.length ++ bs)) ++ bs)
def Ent.frame (e : Ent) : List Nat × Int := if e.may then (frm e.bytes, 0) else ([], 1)
def allB (l : List Ent) : List Nat := l.flatMap fun e => frm e.bytes
def allMay (l : List Ent) : Prop := ∀ e ∈ l, e.may
instance allMayDec (l : List Ent) : Decidable (allMay l) := by unfold allMay; infer_instance
def allE (l : List Ent) : List Nat × Int := if allMay l then if 2000 < l.length then ([], 8) else (allB l, 0) else ([], 1)
/-- The entry whose frame stands at the beginning, and how long that frame is; 0: none does. -/
def first (b : List Nat) : Ent × Nat :=
  match dec 0 0 b with
  | none => (Ent.zero, 0)
  | some (n, k) =>
    if b.length < k + 4 + n then (Ent.zero, 0)
    else if frm ((b.drop (k + 4)).take n) = b.take (k + 4 + n) ∧ (getE2 ((b.drop (k + 4)).take n)).2 = 0 then ((getE2 ((b.drop (k + 4)).take n)).1, k + 4 + n)
    else (Ent.zero, 0)
def readN : Nat → List Nat → List Ent × Nat
  | 0, _ => ([], 0)
  | k + 1, b => if (first b).2 = 0 then ([], 0) else ((first b).1 :: (readN k (b.drop (first b).2)).1, (first b).2 + (readN k (b.drop (first b).2)).2)
/-- How many two rows begin with alike. -/
def meet : List Ent → List Ent → Nat
  | e :: l, d :: m => if e = d then meet l m + 1 else 0
  | _, _ => 0

theorem frm_len (bs : List Nat) : (frm bs).length = (enc bs.length).length + 4 + bs.length := by
  unfold frm
  rw [List.length_append, List.length_append, four_len]
  omega
theorem frm_pos (bs : List Nat) : 5 ≤ (frm bs).length := by have := frm_len bs; have := enc_ne bs.length; omega
theorem frm_byte {bs : List Nat} (h : ∀ c ∈ bs, c < 256) : ∀ c ∈ frm bs, c < 256 := by
  intro c hc
  unfold frm at hc
  rw [List.mem_append, List.mem_append] at hc
  rcases hc with hc | hc | hc
  · exact enc_byte _ c hc
  · exact four_byte _ c hc
  · exact h c hc
theorem allB_nil : allB [] = [] := rfl
theorem allB_cons (e : Ent) (l : List Ent) : allB (e :: l) = frm e.bytes ++ allB l := rfl
theorem allB_append (l m : List Ent) : allB (l ++ m) = allB l ++ allB m := by unfold allB; exact List.flatMap_append
theorem allB_one (e : Ent) : allB [e] = frm e.bytes := by simp [allB]
theorem allB_snoc {l : List Ent} {i : Nat} (h : i < l.length) : allB (l.take (i + 1)) = allB (l.take i) ++ frm (l.getD i Ent.zero).bytes := by
  have e : l.take (i + 1) = l.take i ++ [l.getD i Ent.zero] := by
    rw [List.take_succ_eq_append_getElem h, List.getD_eq_getElem?_getD, List.getElem?_eq_getElem h]; rfl
  rw [e, allB_append, allB_one]

/-- What stands behind a number's bytes is not looked at. -/
theorem first_at {n : Nat} (hn : n < 18446744073709551616) (r : List Nat) : first (enc n ++ r) =
    if r.length < 4 + n then (Ent.zero, 0)
    else if frm ((r.drop 4).take n) = enc n ++ r.take (4 + n) ∧ (getE2 ((r.drop 4).take n)).2 = 0 then ((getE2 ((r.drop 4).take n)).1, (enc n).length + 4 + n)
    else (Ent.zero, 0) := by
  unfold first
  rw [dec_enc0 n r hn]
  simp only
  have e1 : (enc n ++ r).drop ((enc n).length + 4) = r.drop 4 := by rw [← List.drop_drop, List.drop_left]
  have e2 : (enc n ++ r).take ((enc n).length + 4 + n) = enc n ++ r.take (4 + n) := by
    rw [Nat.add_assoc, List.take_length_add_append]
  rw [e1, e2, List.length_append]
  by_cases h : r.length < 4 + n
  · rw [if_pos (by omega), if_pos h]
  · rw [if_neg (by omega), if_neg h]
theorem first_frm {e : Ent} (h : e.may) (ho : e.ok) (r : List Nat) : first (frm e.bytes ++ r) = (e, (frm e.bytes).length) := by
  have hs := bytes_short h ho
  have e0 : frm e.bytes ++ r = enc e.bytes.length ++ (four (more 1 (enc e.bytes.length ++ e.bytes)) ++ (e.bytes ++ r)) := by unfold frm; simp
  have h4 := four_len (more 1 (enc e.bytes.length ++ e.bytes))
  have e1 : (four (more 1 (enc e.bytes.length ++ e.bytes)) ++ (e.bytes ++ r)).drop 4 = e.bytes ++ r := by
    rw [← h4, List.drop_left]
  have e2 : (e.bytes ++ r).take e.bytes.length = e.bytes := by rw [List.take_left]
  have e3 : (four (more 1 (enc e.bytes.length ++ e.bytes)) ++ (e.bytes ++ r)).take (4 + e.bytes.length) = four (more 1 (enc e.bytes.length ++ e.bytes)) ++ e.bytes := by
    rw [← h4, List.take_length_add_append, e2]
  rw [e0, first_at (by omega), e1, e2, e3, get_bytes h ho, if_neg (by simp only [List.length_append, h4]; omega), if_pos ⟨rfl, rfl⟩, frm_len]
theorem first_only {b : List Nat} (hb : ∀ c ∈ b, c < 256) (hl : b.length ≤ 140737488355328) (h : (first b).2 ≠ 0) :
    (first b).1.may ∧ (first b).1.ok ∧ (first b).2 = (frm (first b).1.bytes).length ∧ b = frm (first b).1.bytes ++ b.drop (first b).2 ∧ (first b).2 ≤ b.length := by
  unfold first at h ⊢
  split at h
  · exact absurd rfl h
  · next n k hd =>
    try simp only
    by_cases h1 : b.length < k + 4 + n
    · rw [if_pos h1] at h; exact absurd rfl h
    rw [if_neg h1] at h ⊢
    by_cases h2 : frm ((b.drop (k + 4)).take n) = b.take (k + 4 + n) ∧ (getE2 ((b.drop (k + 4)).take n)).2 = 0
    · rw [if_pos h2]
      obtain ⟨h3, h4⟩ := h2
      obtain ⟨g1, g2⟩ := get_only h4
      have g3 := getE2_ok (bs := (b.drop (k + 4)).take n) (fun c hc => hb c (List.mem_of_mem_drop (List.mem_of_mem_take hc))) (by rw [List.length_take, List.length_drop]; omega)
      simp only
      have h5 : frm (getE2 ((b.drop (k + 4)).take n)).1.bytes = b.take (k + 4 + n) := by rw [g2, h3]
      refine ⟨g1, g3, ?_, ?_, by omega⟩
      · rw [h5, List.length_take]; omega
      · rw [h5]; exact (List.take_append_drop _ _).symm
    · rw [if_neg h2] at h; exact absurd rfl h
theorem first_zero {b : List Nat} (h : (first b).2 = 0) : first b = (Ent.zero, 0) := by
  unfold first at h ⊢
  split
  · rfl
  · next n k hd =>
    rw [hd] at h
    simp only at h
    split
    · rfl
    · next h1 =>
      rw [if_neg h1] at h
      split
      · next h2 => rw [if_pos h2] at h; simp at h
      · rfl
/-- Bytes that begin no frame, and are begun by none. -/
theorem first_cut {e : Ent} (h : e.may) (ho : e.ok) (hb : ∀ c ∈ frm e.bytes, c < 256) {q r : List Nat} (hq : q.length < (frm e.bytes).length) (hr : q ++ r = frm e.bytes) : first q = (Ent.zero, 0) := by
  refine first_zero (Decidable.not_not.1 fun h0 => ?_)
  have hql : q.length ≤ 140737488355328 := by
    have := frm_len e.bytes; have := bytes_short h ho
    have := enc_len_le (n := e.bytes.length) (by omega)
    omega
  obtain ⟨h1, h2, h3, h4, h5⟩ := first_only (fun c hc => hb c (by rw [← hr]; exact List.mem_append_left _ hc)) hql h0
  have e1 : frm e.bytes = frm (first q).1.bytes ++ (q.drop (first q).2 ++ r) := by rw [← List.append_assoc, ← h4, hr]
  have e2 := first_frm h ho []
  rw [List.append_nil, e1, first_frm h1 h2] at e2
  have e3 : (frm (first q).1.bytes).length = (frm (first q).1.bytes ++ (q.drop (first q).2 ++ r)).length := congrArg Prod.snd e2
  rw [← e1, ← h3] at e3
  omega
theorem readN_zero (k : Nat) {b : List Nat} (h : (first b).2 = 0) : readN k b = ([], 0) := by
  cases k with
  | zero => rfl
  | succ k => rw [readN, if_pos h]
theorem readN_frm {e : Ent} (h : e.may) (ho : e.ok) (k : Nat) (r : List Nat) : readN (k + 1) (frm e.bytes ++ r) = (e :: (readN k r).1, (frm e.bytes).length + (readN k r).2) := by
  have := frm_pos e.bytes
  rw [readN, first_frm h ho, if_neg (by simp only; omega)]
  simp only [List.drop_left]
theorem readN_all : ∀ (l : List Ent) (n : Nat) (r : List Nat), (∀ e ∈ l, e.may ∧ e.ok) → l.length ≤ n → readN n (allB l ++ r) = (l ++ (readN (n - l.length) r).1, (allB l).length + (readN (n - l.length) r).2)
  | [], n, r, _, _ => by simp [allB_nil]
  | e :: l, 0, r, _, h => by simp at h
  | e :: l, n + 1, r, hm, h => by
    rw [List.length_cons] at h
    obtain ⟨h1, h2⟩ := hm e (List.mem_cons_self ..)
    rw [allB_cons, List.append_assoc, readN_frm h1 h2, readN_all l n r (fun d hd => hm d (List.mem_cons_of_mem _ hd)) (by omega), List.length_cons, Nat.add_sub_add_right, List.length_append]
    simp only [List.cons_append]
    congr 1
    omega
theorem first_nil : first [] = (Ent.zero, 0) := rfl
theorem readN_nil (k : Nat) : readN k [] = ([], 0) := readN_zero k (by rw [first_nil])
theorem readN_some {l : List Ent} {n : Nat} (hm : ∀ e ∈ l, e.may ∧ e.ok) (h : l.length ≤ n) : readN n (allB l) = (l, (allB l).length) := by
  have := readN_all l n [] hm h
  rw [readN_nil] at this
  simpa using this
theorem readN_many {l : List Ent} {n : Nat} (hm : ∀ e ∈ l, e.may ∧ e.ok) (h : n ≤ l.length) : readN n (allB l) = (l.take n, (allB (l.take n)).length) := by
  have hl : (l.take n).length = n := by rw [List.length_take]; omega
  have := readN_all (l.take n) n (allB (l.drop n)) (fun e he => hm e (List.mem_of_mem_take he)) (by omega)
  rw [← allB_append, List.take_append_drop, hl, Nat.sub_self] at this
  simpa [readN] using this
theorem allB_byte {l : List Ent} (h : ∀ e ∈ l, ∀ c ∈ e.bytes, c < 256) : ∀ c ∈ allB l, c < 256 := by
  intro c hc
  unfold allB at hc
  obtain ⟨e, he, hc⟩ := List.mem_flatMap.1 hc
  exact frm_byte (h e he) c hc
/-- A row that is cut off is read up to its last whole frame. -/
theorem readN_torn : ∀ (l : List Ent) (n k : Nat), (∀ e ∈ l, (e.may ∧ e.ok) ∧ ∀ c ∈ e.bytes, c < 256) → l.length ≤ n → k ≤ (allB l).length →
    ∃ j, j ≤ l.length ∧ readN n ((allB l).take k) = (l.take j, (allB (l.take j)).length) ∧ (allB (l.take j)).length ≤ k ∧ (j < l.length → k < (allB (l.take (j + 1))).length)
  | [], n, k, _, _, hk => ⟨0, Nat.le_refl _, by
      obtain rfl : k = 0 := by simpa [allB_nil] using hk
      simp [allB_nil, readN_nil], by simp [allB_nil], fun h => by simp at h⟩
  | e :: l, n, k, hm, hn, hk => by
    obtain ⟨⟨h1, h2⟩, h3⟩ := hm e (List.mem_cons_self ..)
    rw [allB_cons, List.length_append] at hk
    rw [List.length_cons] at hn
    by_cases hlt : k < (frm e.bytes).length
    · refine ⟨0, Nat.zero_le _, ?_, by simp [allB_nil], fun _ => by simpa [allB_one] using hlt⟩
      have e1 : (allB (e :: l)).take k = (frm e.bytes).take k := by rw [allB_cons, List.take_append_of_le_length (by omega)]
      have e2 := first_cut h1 h2 (frm_byte h3) (q := (frm e.bytes).take k) (r := (frm e.bytes).drop k) (by rw [List.length_take]; omega) (List.take_append_drop _ _)
      rw [e1, readN_zero n (by rw [e2])]
      rfl
    · obtain ⟨m, rfl⟩ : ∃ m, n = m + 1 := ⟨n - 1, by omega⟩
      obtain ⟨j, hj, e1, e2, e3⟩ := readN_torn l m (k - (frm e.bytes).length) (fun d hd => hm d (List.mem_cons_of_mem _ hd)) (by omega) (by omega)
      refine ⟨j + 1, by rw [List.length_cons]; omega, ?_, ?_, fun h => ?_⟩
      · have e4 : (allB (e :: l)).take k = frm e.bytes ++ (allB l).take (k - (frm e.bytes).length) := by rw [allB_cons, List.take_append, List.take_of_length_le (by omega)]
        rw [e4, readN_frm h1 h2, e1, List.take_succ_cons, allB_cons, List.length_append]
      · rw [List.take_succ_cons, allB_cons, List.length_append]; omega
      · rw [List.length_cons] at h
        have := e3 (by omega)
        rw [List.take_succ_cons, allB_cons, List.length_append]
        omega
/-- A byte of a frame, behind its length, that is turned: no frame stands there. -/
theorem first_turned {e : Ent} (h : e.may) (ho : e.ok) (hb : ∀ c ∈ e.bytes, c < 256) {j v : Nat} (hj : (enc e.bytes.length).length ≤ j) (hj2 : j < (frm e.bytes).length) (hv : v < 256) (hne : v ≠ (frm e.bytes).getD j 0) (r : List Nat) (hr : ∀ c ∈ r, c < 256) (hrl : r.length ≤ 1000000) :
    first ((frm e.bytes).set j v ++ r) = (Ent.zero, 0) := by
  refine first_zero (Decidable.not_not.1 fun h0 => ?_)
  have hs := bytes_short h ho
  have hel := enc_len_le (n := e.bytes.length) (by omega)
  have hfl := frm_len e.bytes
  have hset : ∀ c ∈ (frm e.bytes).set j v, c < 256 := fun c hc => by
    rcases List.mem_or_eq_of_mem_set hc with hc | rfl
    · exact frm_byte hb c hc
    · exact hv
  obtain ⟨h1, h2, h3, h4, h5⟩ := first_only (b := (frm e.bytes).set j v ++ r) (fun c hc => by
    rcases List.mem_append.1 hc with hc | hc
    · exact hset c hc
    · exact hr c hc) (by rw [List.length_append, List.length_set]; omega) h0
  generalize (first ((frm e.bytes).set j v ++ r)).1 = d at h1 h2 h3 h4
  generalize (first ((frm e.bytes).set j v ++ r)).2 = m at h3 h4 h5 h0
  have hsd := bytes_short h1 h2
  -- the length's bytes are as they were
  have e1 : (frm e.bytes).set j v = enc e.bytes.length ++ (four (more 1 (enc e.bytes.length ++ e.bytes)) ++ e.bytes).set (j - (enc e.bytes.length).length) v := by
    unfold frm
    rw [List.set_append_right _ _ hj]
  obtain ⟨q, hq⟩ : ∃ q, q = (four (more 1 (enc e.bytes.length ++ e.bytes)) ++ e.bytes).set (j - (enc e.bytes.length).length) v := ⟨_, rfl⟩
  have hql : q.length = 4 + e.bytes.length := by rw [hq, List.length_set, List.length_append, four_len]
  rw [← hq] at e1
  have e2 : enc e.bytes.length ++ (q ++ r) = enc d.bytes.length ++ ((four (more 1 (enc d.bytes.length ++ d.bytes)) ++ d.bytes) ++ ((frm e.bytes).set j v ++ r).drop m) := by
    rw [← List.append_assoc, ← e1, ← List.append_assoc]
    exact h4
  have d1 := dec_enc0 e.bytes.length (q ++ r) (by omega)
  rw [e2, dec_enc0 d.bytes.length _ (by omega)] at d1
  have hlen : d.bytes.length = e.bytes.length := by injection d1 with d1; exact congrArg Prod.fst d1
  rw [hlen] at e2
  have e3 := List.append_cancel_left e2
  have e4 : q = four (more 1 (enc e.bytes.length ++ d.bytes)) ++ d.bytes := (List.append_inj e3 (by rw [hql, List.length_append, four_len, hlen])).1
  -- where the turned byte lies
  obtain ⟨i, hi⟩ : ∃ i, i = j - (enc e.bytes.length).length := ⟨_, rfl⟩
  rw [← hi] at hq
  have hg : (frm e.bytes).getD j 0 = (four (more 1 (enc e.bytes.length ++ e.bytes)) ++ e.bytes).getD i 0 := by
    unfold frm
    rw [List.getD_eq_getElem?_getD, List.getD_eq_getElem?_getD, List.getElem?_append_right hj, hi]
  rw [hg] at hne
  rw [e4] at hq
  by_cases h4i : i < 4
  · rw [List.set_append_left _ _ (by rw [four_len]; exact h4i)] at hq
    obtain ⟨q1, q2⟩ := List.append_inj hq (by rw [List.length_set, four_len, four_len])
    rw [q2] at q1
    have q3 : (four (more 1 (enc e.bytes.length ++ e.bytes))).getD i 0 = v := by
      conv => lhs; rw [q1]
      rw [List.getD_eq_getElem?_getD, List.getElem?_set_self (by rw [four_len]; exact h4i)]; rfl
    apply hne
    rw [← q3, List.getD_eq_getElem?_getD, List.getD_eq_getElem?_getD, List.getElem?_append_left (by rw [four_len]; exact h4i)]
  · rw [List.set_append_right _ _ (by rw [four_len]; omega), four_len] at hq
    obtain ⟨q1, q2⟩ := List.append_inj hq (by rw [four_len, four_len])
    have q3 := four_inj (more32 _ _) (more32 _ _) q1
    have hi2 : i - 4 < e.bytes.length := by omega
    have hb2 : ∀ c ∈ enc e.bytes.length ++ e.bytes, c < 256 := fun c hc => by
      rcases List.mem_append.1 hc with hc | hc
      · exact enc_byte _ c hc
      · exact hb c hc
    have t := more_tells (bs := enc e.bytes.length ++ e.bytes) (k := (enc e.bytes.length).length + (i - 4)) (c := v) (s := 1) (by rw [List.length_append]; omega) hb2 hv
    rw [List.set_append_right _ _ (by omega), Nat.add_sub_cancel_left, ← q2] at t
    have t2 := t.1 q3
    apply hne
    rw [t2, List.getD_eq_getElem?_getD, List.getD_eq_getElem?_getD, List.getElem?_append_right (by omega), List.getElem?_append_right (by rw [four_len]; omega), four_len, Nat.add_sub_cancel_left]

theorem meet_le : ∀ l m : List Ent, meet l m ≤ l.length ∧ meet l m ≤ m.length
  | [], m => by cases m <;> simp [meet]
  | e :: l, [] => by simp [meet]
  | e :: l, d :: m => by
    have := meet_le l m
    unfold meet
    split <;> simp only [List.length_cons] <;> omega
theorem meet_comm : ∀ l m : List Ent, meet l m = meet m l
  | [], m => by cases m <;> simp [meet]
  | e :: l, [] => by simp [meet]
  | e :: l, d :: m => by
    unfold meet
    by_cases h : e = d
    · rw [if_pos h, if_pos h.symm, meet_comm l m]
    · rw [if_neg h, if_neg (fun e => h e.symm)]
theorem meet_take : ∀ (k : Nat) (l : List Ent), meet (l.take k) l = min k l.length
  | 0, l => by cases l <;> simp [meet]
  | k + 1, [] => by simp [meet]
  | k + 1, e :: l => by
    rw [List.take_succ_cons, meet, if_pos rfl, meet_take k l, List.length_cons]
    omega
theorem meet_app : ∀ (l m : List Ent), meet l (l ++ m) = l.length
  | [], m => by cases m <;> simp [meet]
  | e :: l, m => by rw [List.cons_append, meet, if_pos rfl, meet_app l m, List.length_cons]
theorem meet_front : ∀ l m : List Ent, meet (l.take (meet l m)) m = meet l m
  | [], m => by cases m <;> simp [meet]
  | e :: l, [] => by simp [meet]
  | e :: l, d :: m => by
    by_cases h : e = d
    · have e1 : meet (e :: l) (d :: m) = meet l m + 1 := by rw [meet, if_pos h]
      rw [e1, List.take_succ_cons, meet, if_pos h, meet_front l m]
    · have e1 : meet (e :: l) (d :: m) = 0 := by rw [meet, if_neg h]
      rw [e1]; simp [meet]
theorem meet_next : ∀ {l m : List Ent}, meet l m < l.length → meet l m < m.length → l.getD (meet l m) Ent.zero ≠ m.getD (meet l m) Ent.zero
  | [], m, h, _ => by simp at h
  | e :: l, [], _, h => by simp at h
  | e :: l, d :: m, h1, h2 => by
    by_cases h : e = d
    · have e1 : meet (e :: l) (d :: m) = meet l m + 1 := by rw [meet, if_pos h]
      rw [e1] at h1 h2 ⊢
      rw [List.length_cons] at h1 h2
      simpa using meet_next (l := l) (m := m) (by omega) (by omega)
    · have e1 : meet (e :: l) (d :: m) = 0 := by rw [meet, if_neg h]
      rw [e1]
      simpa using h
theorem meet_same : ∀ {l m : List Ent} {j : Nat}, j < meet l m → l.getD j Ent.zero = m.getD j Ent.zero
  | [], m, j, h => by cases m <;> simp [meet] at h
  | e :: l, [], j, h => by simp [meet] at h
  | e :: l, d :: m, j, h => by
    by_cases hd : e = d
    · have e1 : meet (e :: l) (d :: m) = meet l m + 1 := by rw [meet, if_pos hd]
      rw [e1] at h
      cases j with
      | zero => simpa using hd
      | succ j => simpa using meet_same (l := l) (m := m) (j := j) (by omega)
    · have e1 : meet (e :: l) (d :: m) = 0 := by rw [meet, if_neg hd]
      omega
/-- As far as it was looked. -/
theorem meet_is {l m : List Ent} {k : Nat} (hk : k ≤ l.length) (hk2 : k ≤ m.length) (hs : ∀ j, j < k → l.getD j Ent.zero = m.getD j Ent.zero) (hn : k < l.length → k < m.length → l.getD k Ent.zero ≠ m.getD k Ent.zero) : meet l m = k := by
  have h1 := meet_le l m
  rcases Nat.lt_trichotomy (meet l m) k with h | h | h
  · exact absurd (hs _ h) (meet_next (by omega) (by omega))
  · exact h
  · exact absurd (meet_same h) (hn (by omega) (by omega))
end Go.Proofs.YtdpoahjgdndnhaaDoor
