/-
  Plain: rows of entries that come and go under views that rise: each may be, all together may be, and what they come to. No program in it.
-/
import Derived.Test.YtdpoahjgdndnhaaDoorEMath
set_option maxRecDepth 100000
namespace Go.Proofs.YtdpoahjgdndnhaaDoor
set_option linter.unusedVariables false

/-- What is known while such a row is made: the entries, the Ids that are there, the view, the last Id, the last time. -/
structure RwS where
  out : List Ent
  th : List Int
  vw : Nat
  id : Nat
  at_ : Nat
def RwS.zero : RwS := ⟨[], [], 0, 0, 0⟩
def sealT (k : Nat) : List UInt8 := [115, 101, 97, 108, 32] ++ (if k = 0 then [49] else if k = 1 then [57] else [51, 51])
def vwE (v : Nat) : Ent := ⟨3, v, 0, 0, 0, 0, 0, []⟩
def ruE (v k : Nat) : Ent := ⟨4, v, 0, 0, 0, 0, 0, sealT k⟩
def drE (v : Nat) (i : Int) : Ent := ⟨2, v, i, 0, 0, 0, 0, []⟩
def adE (v i t f u s : Nat) : Ent := ⟨1, v, i, t, f, u, s, []⟩
def RwS.next (s : RwS) (k : Nat) : RwS :=
  if k % 8 = 7 then { s with vw := s.vw + 1, out := s.out ++ [vwE (s.vw + 1)] }
  else if k % 8 = 6 then { s with out := s.out ++ [ruE s.vw (k / 8 % 3)] }
  else if 3 < k % 8 ∧ 0 < s.th.length then { s with out := s.out ++ [drE s.vw (s.th.getD (k / 8 % s.th.length) 0)], th := s.th.take (k / 8 % s.th.length) ++ s.th.drop (k / 8 % s.th.length + 1) }
  else { out := s.out ++ [adE s.vw (s.id + 1) (k / 8 % 4) s.at_ (s.at_ + 1 + k / 8 % 30) (k % 4294967296)], th := s.th ++ [((s.id + 1 : Nat) : Int)], vw := s.vw, id := s.id + 1, at_ := s.at_ + 1 + k / 8 % 30 }
def rwOn : RwS → List Nat → RwS
  | s, [] => s
  | s, k :: r => rwOn (s.next k) r
def rowsOf (l : List Nat) : List Ent := (rwOn RwS.zero (l.take 40)).out

theorem foldOn_append : ∀ (a b : List Ent) (m : Man), (foldOn m a).2 = 0 → foldOn m (a ++ b) = foldOn (foldOn m a).1 b
  | [], b, m, _ => rfl
  | e :: a, b, m, h => by
    rw [List.cons_append, foldOn, foldOn]
    rw [foldOn] at h
    by_cases hf : m.fault e = 0
    · rw [if_pos hf] at h ⊢
      rw [if_pos hf]
      exact foldOn_append a b _ h
    · rw [if_neg hf] at h
      exact absurd h hf
theorem foldOn_front : ∀ (a b : List Ent) (m : Man), (foldOn m (a ++ b)).2 = 0 → (foldOn m a).2 = 0
  | [], b, m, _ => rfl
  | e :: a, b, m, h => by
    rw [List.cons_append, foldOn] at h
    rw [foldOn]
    by_cases hf : m.fault e = 0
    · rw [if_pos hf] at h ⊢
      exact foldOn_front a b _ h
    · rw [if_neg hf] at h
      exact absurd h hf
theorem foldOn_one (m : Man) (e : Ent) : foldOn m [e] = if m.fault e = 0 then (m.take e, 0) else (m, m.fault e) := by
  rw [foldOn]; rfl

/-- What holds of such a row of n entries. -/
structure RwS.Good (s : RwS) (n : Nat) : Prop where
  len : s.out.length = n
  may : ∀ e ∈ s.out, e.may ∧ e.ok
  vw : s.vw ≤ n
  id : s.id ≤ n
  at_ : s.at_ ≤ n * 31
  th : s.th.length ≤ n ∧ s.th.Nodup ∧ ∀ i ∈ s.th, 1 ≤ i ∧ i ≤ (s.id : Int)
  code : (foldOn Man.zero s.out).2 = 0
  la : (foldOn Man.zero s.out).1.la = s.vw
  ev : ∀ i, i ∈ (foldOn Man.zero s.out).1.ev ↔ 1 ≤ i ∧ i ≤ (s.id : Int)
  has_ : ∀ i, (foldOn Man.zero s.out).1.has i ↔ i ∈ s.th
theorem textOk_seal (k : Nat) (h : k < 3) : textOk (sealT k) := by
  match k, h with
  | 0, _ => decide
  | 1, _ => decide
  | 2, _ => decide
theorem vwE_may {v : Nat} (h : 0 < v) (h2 : v ≤ 1000) : (vwE v).may ∧ (vwE v).ok := by
  unfold vwE Ent.may Ent.own Ent.says Ent.ok In64
  simp
  omega
theorem ruE_may {v k : Nat} (h2 : v ≤ 1000) (hk : k < 3) : (ruE v k).may ∧ (ruE v k).ok := by
  have h := textOk_seal k hk
  have hl : (sealT k).length ≤ 300 := h.1
  unfold ruE Ent.may Ent.own Ent.says Ent.ok In64
  simp [h]
  omega
theorem drE_may {v : Nat} {i : Int} (h2 : v ≤ 1000) (hi : 1 ≤ i ∧ i ≤ 1000) : (drE v i).may ∧ (drE v i).ok := by
  unfold drE Ent.may Ent.own Ent.says Ent.ok In64 idOk
  simp
  omega
theorem adE_may {v i t f u s : Nat} (h2 : v ≤ 1000) (hi : 1 ≤ i ∧ i ≤ 1000) (ht : t < 4) (hf : f < u) (hu : u ≤ 1000000) (hs : s < 4294967296) : (adE v i t f u s).may ∧ (adE v i t f u s).ok := by
  unfold adE Ent.may Ent.own Ent.says Ent.ok In64 idOk
  simp
  omega
theorem has_take_add {m : Man} {e : Ent} (h : e.kd = 1) (i : Int) : (m.take e).has i ↔ i = e.id ∨ m.has i := by
  unfold Man.take
  rw [if_pos h]
  unfold Man.has
  simp only [List.mem_map]
  constructor
  · rintro ⟨x, hx, rfl⟩
    rcases mem_insI.1 hx with rfl | hx
    · exact .inl rfl
    · exact .inr ⟨x, hx, rfl⟩
  · rintro (rfl | ⟨x, hx, rfl⟩)
    · exact ⟨e.inf, mem_insI.2 (.inl rfl), rfl⟩
    · exact ⟨x, mem_insI.2 (.inr hx), rfl⟩
theorem has_take_drop {m : Man} {e : Ent} (h : e.kd = 2) (i : Int) : (m.take e).has i ↔ m.has i ∧ i ≠ e.id := by
  unfold Man.take
  rw [if_neg (by omega), if_pos h]
  unfold Man.has
  simp only [List.mem_map, List.mem_filter, decide_eq_true_eq]
  constructor
  · rintro ⟨x, ⟨hx, hn⟩, rfl⟩
    exact ⟨⟨x, hx, rfl⟩, hn⟩
  · rintro ⟨⟨x, hx, rfl⟩, hn⟩
    exact ⟨x, ⟨hx, hn⟩, rfl⟩
theorem nodup_cut {l : List Int} (h : l.Nodup) {j : Nat} (hj : j < l.length) (i : Int) : i ∈ l.take j ++ l.drop (j + 1) ↔ i ∈ l ∧ i ≠ l.getD j 0 := by
  have e : l = l.take j ++ l[j] :: l.drop (j + 1) := by rw [← List.drop_eq_getElem_cons hj, List.take_append_drop]
  have hg : l.getD j 0 = l[j] := by rw [List.getD_eq_getElem?_getD, List.getElem?_eq_getElem hj]; rfl
  rw [hg]
  rw [e] at h
  rw [List.nodup_append] at h
  obtain ⟨h1, h2, h3⟩ := h
  rw [List.nodup_cons] at h2
  constructor
  · intro hi
    refine ⟨?_, ?_⟩
    · rw [e]
      rcases List.mem_append.1 hi with hi | hi
      · exact List.mem_append_left _ hi
      · exact List.mem_append_right _ (List.mem_cons_of_mem _ hi)
    · rintro rfl
      rcases List.mem_append.1 hi with hi | hi
      · exact h3 _ hi _ (List.mem_cons_self ..) rfl
      · exact h2.1 hi
  · rintro ⟨hi, hn⟩
    rw [e] at hi
    rcases List.mem_append.1 hi with hi | hi
    · exact List.mem_append_left _ hi
    · rcases List.mem_cons.1 hi with rfl | hi
      · exact absurd rfl hn
      · exact List.mem_append_right _ hi
theorem nodup_cut2 {l : List Int} (h : l.Nodup) (j : Nat) : (l.take j ++ l.drop (j + 1)).Nodup := by
  rw [← List.eraseIdx_eq_take_drop_succ]
  exact h.sublist (List.eraseIdx_sublist l j)
theorem RwS.Good.zero : RwS.zero.Good 0 := by
  refine ⟨rfl, fun e he => (by simp [RwS.zero] at he), by decide, by decide, by decide, ⟨by decide, by simp [RwS.zero], fun i hi => (by simp [RwS.zero] at hi)⟩, rfl, rfl, fun i => ?_, fun i => ?_⟩
  · simp [RwS.zero, foldOn, Man.zero]; omega
  · simp [RwS.zero, foldOn, Man.zero, Man.has]
theorem may_snoc {l : List Ent} {e : Ent} (h : ∀ d ∈ l, d.may ∧ d.ok) (he : e.may ∧ e.ok) : ∀ d ∈ l ++ [e], d.may ∧ d.ok := by
  intro d hd
  rcases List.mem_append.1 hd with hd | hd
  · exact h d hd
  · rw [List.mem_singleton] at hd
    rw [hd]; exact he
theorem RwS.Good.next {s : RwS} {n : Nat} (h : s.Good n) (hn : n ≤ 100) (k : Nat) : (s.next k).Good (n + 1) := by
  obtain ⟨h1, h2, h3, h4, h5, ⟨h6, h7, h8⟩, h9, h10, h11, h12⟩ := h
  have one : ∀ e, foldOn Man.zero (s.out ++ [e]) = if (foldOn Man.zero s.out).1.fault e = 0 then ((foldOn Man.zero s.out).1.take e, 0) else ((foldOn Man.zero s.out).1, (foldOn Man.zero s.out).1.fault e) := fun e => by
    rw [foldOn_append _ _ _ h9, foldOn_one]
  generalize foldOn Man.zero s.out = M at *
  unfold RwS.next
  by_cases k7 : k % 8 = 7
  · rw [if_pos k7]
    have hm := vwE_may (v := s.vw + 1) (by omega) (by omega)
    have hf : M.1.fault (vwE (s.vw + 1)) = 0 := by
      unfold Man.fault
      rw [if_neg (fun h => h hm.1), if_neg (by simp [vwE]), if_neg (by simp [vwE]), if_neg (by simp only [vwE]; omega)]
    have ho := one (vwE (s.vw + 1))
    rw [if_pos hf] at ho
    refine ⟨?_, may_snoc h2 hm, ?_, ?_, ?_, ⟨?_, h7, h8⟩, ?_, ?_, ?_, ?_⟩
    · simp only [List.length_append, List.length_singleton]; omega
    · simp only; omega
    · simp only; omega
    · simp only; omega
    · simp only; omega
    · simp only [ho]
    · simp only [ho]; rfl
    · simp only [ho]; exact h11
    · simp only [ho]; exact h12
  rw [if_neg k7]
  by_cases k6 : k % 8 = 6
  · rw [if_pos k6]
    have hm := ruE_may (v := s.vw) (k := k / 8 % 3) (by omega) (by omega)
    have hf : M.1.fault (ruE s.vw (k / 8 % 3)) = 0 := by
      unfold Man.fault
      rw [if_neg (fun h => h hm.1), if_neg (by simp [ruE]), if_neg (by simp [ruE]), if_neg (by simp only [ruE]; omega)]
    have ho := one (ruE s.vw (k / 8 % 3))
    rw [if_pos hf] at ho
    refine ⟨?_, may_snoc h2 hm, ?_, ?_, ?_, ⟨?_, h7, h8⟩, ?_, ?_, ?_, ?_⟩
    · simp only [List.length_append, List.length_singleton]; omega
    · simp only; omega
    · simp only; omega
    · simp only; omega
    · simp only; omega
    · simp only [ho]
    · simp only [ho]; rfl
    · simp only [ho]; exact h11
    · simp only [ho]; exact h12
  rw [if_neg k6]
  by_cases k3 : 3 < k % 8 ∧ 0 < s.th.length
  · rw [if_pos k3]
    have hj : k / 8 % s.th.length < s.th.length := Nat.mod_lt _ k3.2
    generalize k / 8 % s.th.length = j at *
    have hmem : s.th.getD j 0 ∈ s.th := by rw [List.getD_eq_getElem?_getD, List.getElem?_eq_getElem hj]; exact List.getElem_mem hj
    have hb := h8 _ hmem
    have hm := drE_may (v := s.vw) (i := s.th.getD j 0) (by omega) (by omega)
    have hf : M.1.fault (drE s.vw (s.th.getD j 0)) = 0 := by
      unfold Man.fault
      rw [if_neg (fun h => h hm.1), if_neg (by simp [drE]), if_neg (fun h => h.2 ((h12 _).2 hmem)), if_neg (by simp only [drE]; omega)]
    have ho := one (drE s.vw (s.th.getD j 0))
    rw [if_pos hf] at ho
    refine ⟨?_, may_snoc h2 hm, ?_, ?_, ?_, ⟨?_, nodup_cut2 h7 j, fun i hi => h8 i ((nodup_cut h7 hj i).1 hi).1⟩, ?_, ?_, ?_, ?_⟩
    · simp only [List.length_append, List.length_singleton]; omega
    · simp only; omega
    · simp only; omega
    · simp only; omega
    · simp only [List.length_append, List.length_take, List.length_drop]; omega
    · simp only [ho]
    · simp only [ho]; rfl
    · simp only [ho]; exact h11
    · intro i
      simp only [ho]
      rw [has_take_drop rfl, nodup_cut h7 hj, h12]
      rfl
  rw [if_neg k3]
  have hm := adE_may (v := s.vw) (i := s.id + 1) (t := k / 8 % 4) (f := s.at_) (u := s.at_ + 1 + k / 8 % 30) (s := k % 4294967296) (by omega) (by omega) (by omega) (by omega) (by omega) (by omega)
  have hf : M.1.fault (adE s.vw (s.id + 1) (k / 8 % 4) s.at_ (s.at_ + 1 + k / 8 % 30) (k % 4294967296)) = 0 := by
    unfold Man.fault
    rw [if_neg (fun h => h hm.1), if_neg (fun h => by
      have := (h11 _).1 h.2
      simp only [adE] at this
      omega), if_neg (by simp [adE]), if_neg (by simp only [adE]; omega)]
  have ho := one (adE s.vw (s.id + 1) (k / 8 % 4) s.at_ (s.at_ + 1 + k / 8 % 30) (k % 4294967296))
  rw [if_pos hf] at ho
  have hnot : ((s.id + 1 : Nat) : Int) ∉ s.th := fun h => by have := h8 _ h; omega
  refine ⟨?_, may_snoc h2 hm, ?_, ?_, ?_, ⟨?_, ?_, fun i hi => ?_⟩, ?_, ?_, ?_, ?_⟩
  · simp only [List.length_append, List.length_singleton]; omega
  · simp only; omega
  · simp only; omega
  · simp only; omega
  · simp only [List.length_append, List.length_singleton]; omega
  · simp only
    rw [List.nodup_append]
    refine ⟨h7, by simp, fun a ha b hb => ?_⟩
    rw [List.mem_singleton] at hb
    rintro rfl
    rw [hb] at ha
    exact hnot ha
  · simp only at hi ⊢
    rcases List.mem_append.1 hi with hi | hi
    · have := h8 i hi; omega
    · rw [List.mem_singleton] at hi; omega
  · simp only [ho]
  · simp only [ho]; rfl
  · intro i
    simp only [ho]
    have e : (M.1.take (adE s.vw (s.id + 1) (k / 8 % 4) s.at_ (s.at_ + 1 + k / 8 % 30) (k % 4294967296))).ev = ((s.id + 1 : Nat) : Int) :: M.1.ev := rfl
    rw [e, List.mem_cons, h11]
    omega
  · intro i
    simp only [ho]
    rw [has_take_add rfl, h12, List.mem_append, List.mem_singleton]
    have e : (adE s.vw (s.id + 1) (k / 8 % 4) s.at_ (s.at_ + 1 + k / 8 % 30) (k % 4294967296)).id = ((s.id + 1 : Nat) : Int) := rfl
    rw [e]
    exact Or.comm
theorem rwOn_good : ∀ (l : List Nat) (s : RwS) (n : Nat), s.Good n → n + l.length ≤ 100 → (rwOn s l).Good (n + l.length)
  | [], s, n, h, _ => h
  | k :: r, s, n, h, hl => by
    rw [List.length_cons] at hl ⊢
    have := rwOn_good r (s.next k) (n + 1) (h.next (by omega) k) (by omega)
    rw [rwOn]
    rwa [show n + (r.length + 1) = n + 1 + r.length by omega]
theorem rwOn_take {l : List Nat} {s : RwS} : ∀ {i : Nat}, i < l.length → rwOn s (l.take (i + 1)) = (rwOn s (l.take i)).next (l.getD i 0) := by
  intro i hi
  have e : l.take (i + 1) = l.take i ++ [l.getD i 0] := by
    rw [List.take_succ_eq_append_getElem hi, List.getD_eq_getElem?_getD, List.getElem?_eq_getElem hi]; rfl
  have h : ∀ (a b : List Nat) (s : RwS), rwOn s (a ++ b) = rwOn (rwOn s a) b := by
    intro a
    induction a with
    | nil => intro b s; rfl
    | cons x a ih => intro b s; rw [List.cons_append, rwOn, rwOn, ih]
  rw [e, h]
  rfl
theorem rows_good (l : List Nat) : (rwOn RwS.zero (l.take 40)).Good (min 40 l.length) := by
  have := rwOn_good (l.take 40) RwS.zero 0 RwS.Good.zero (by rw [List.length_take]; omega)
  rwa [List.length_take, Nat.zero_add] at this
end Go.Proofs.YtdpoahjgdndnhaaDoor
