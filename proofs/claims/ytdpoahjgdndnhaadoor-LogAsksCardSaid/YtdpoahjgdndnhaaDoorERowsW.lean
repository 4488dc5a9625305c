/-
  Plain: rows of entries that come and go under views that rise: each may be, all together may be, and what they come to. No program in it.
  Rows: rows of entries that come and go; nothing that was there is written.
-/
import Derived.Test.YtdpoahjgdndnhaaDoorEMath
import Derived.Test.YtdpoahjgdndnhaaDoorLRow
import Derived.Test.YtdpoahjgdndnhaaDoorEPut
import Derived.ArgAppend
import Derived.Deep.RegionLawGrows
set_option maxRecDepth 100000
namespace Go.Proofs.YtdpoahjgdndnhaaDoor
set_option linter.unusedVariables false

/-- What is known while such a row is made: the entries, the Ids that are there, the view, the last Id, the last time. -/
structure RwS where
  out : List Ent
  th : List Int
  vw : Nat
  id : Nat
  at_ : Nat
def RwS.zero : RwS := ⟨[], [], 0, 0, 0⟩
def sealT (k : Nat) : List UInt8 := [115, 101, 97, 108, 32] ++ (if k = 0 then [49] else if k = 1 then [57] else [51, 51])
def vwE (v : Nat) : Ent := ⟨3, v, 0, 0, 0, 0, 0, []⟩
def ruE (v k : Nat) : Ent := ⟨4, v, 0, 0, 0, 0, 0, sealT k⟩
def drE (v : Nat) (i : Int) : Ent := ⟨2, v, i, 0, 0, 0, 0, []⟩
def adE (v i t f u s : Nat) : Ent := ⟨1, v, i, t, f, u, s, []⟩
def RwS.next (s : RwS) (k : Nat) : RwS :=
  if k % 8 = 7 then { s with vw := s.vw + 1, out := s.out ++ [vwE (s.vw + 1)] }
  else if k % 8 = 6 then { s with out := s.out ++ [ruE s.vw (k / 8 % 3)] }
  else if 3 < k % 8 ∧ 0 < s.th.length then { s with out := s.out ++ [drE s.vw (s.th.getD (k / 8 % s.th.length) 0)], th := s.th.take (k / 8 % s.th.length) ++ s.th.drop (k / 8 % s.th.length + 1) }
  else { out := s.out ++ [adE s.vw (s.id + 1) (k / 8 % 4) s.at_ (s.at_ + 1 + k / 8 % 30) (k % 4294967296)], th := s.th ++ [((s.id + 1 : Nat) : Int)], vw := s.vw, id := s.id + 1, at_ := s.at_ + 1 + k / 8 % 30 }
def rwOn : RwS → List Nat → RwS
  | s, [] => s
  | s, k :: r => rwOn (s.next k) r
def rowsOf (l : List Nat) : List Ent := (rwOn RwS.zero (l.take 40)).out

theorem foldOn_append : ∀ (a b : List Ent) (m : Man), (foldOn m a).2 = 0 → foldOn m (a ++ b) = foldOn (foldOn m a).1 b
  | [], b, m, _ => rfl
  | e :: a, b, m, h => by
    rw [List.cons_append, foldOn, foldOn]
    rw [foldOn] at h
    by_cases hf : m.fault e = 0
    · rw [if_pos hf] at h ⊢
      rw [if_pos hf]
      exact foldOn_append a b _ h
    · rw [if_neg hf] at h
      exact absurd h hf
theorem foldOn_front : ∀ (a b : List Ent) (m : Man), (foldOn m (a ++ b)).2 = 0 → (foldOn m a).2 = 0
  | [], b, m, _ => rfl
  | e :: a, b, m, h => by
    rw [List.cons_append, foldOn] at h
    rw [foldOn]
    by_cases hf : m.fault e = 0
    · rw [if_pos hf] at h ⊢
      exact foldOn_front a b _ h
    · rw [if_neg hf] at h
      exact absurd h hf
theorem foldOn_one (m : Man) (e : Ent) : foldOn m [e] = if m.fault e = 0 then (m.take e, 0) else (m, m.fault e) := by
  rw [foldOn]; rfl

/-- What holds of such a row of n entries. -/
structure RwS.Good (s : RwS) (n : Nat) : Prop where
  len : s.out.length = n
  may : ∀ e ∈ s.out, e.may ∧ e.ok
  vw : s.vw ≤ n
  id : s.id ≤ n
  at_ : s.at_ ≤ n * 31
  th : s.th.length ≤ n ∧ s.th.Nodup ∧ ∀ i ∈ s.th, 1 ≤ i ∧ i ≤ (s.id : Int)
  code : (foldOn Man.zero s.out).2 = 0
  la : (foldOn Man.zero s.out).1.la = s.vw
  ev : ∀ i, i ∈ (foldOn Man.zero s.out).1.ev ↔ 1 ≤ i ∧ i ≤ (s.id : Int)
  has_ : ∀ i, (foldOn Man.zero s.out).1.has i ↔ i ∈ s.th
theorem textOk_seal (k : Nat) (h : k < 3) : textOk (sealT k) := by
  match k, h with
  | 0, _ => decide
  | 1, _ => decide
  | 2, _ => decide
theorem vwE_may {v : Nat} (h : 0 < v) (h2 : v ≤ 1000) : (vwE v).may ∧ (vwE v).ok := by
  unfold vwE Ent.may Ent.own Ent.says Ent.ok In64
  simp
  omega
theorem ruE_may {v k : Nat} (h2 : v ≤ 1000) (hk : k < 3) : (ruE v k).may ∧ (ruE v k).ok := by
  have h := textOk_seal k hk
  have hl : (sealT k).length ≤ 300 := h.1
  unfold ruE Ent.may Ent.own Ent.says Ent.ok In64
  simp [h]
  omega
theorem drE_may {v : Nat} {i : Int} (h2 : v ≤ 1000) (hi : 1 ≤ i ∧ i ≤ 1000) : (drE v i).may ∧ (drE v i).ok := by
  unfold drE Ent.may Ent.own Ent.says Ent.ok In64 idOk
  simp
  omega
theorem adE_may {v i t f u s : Nat} (h2 : v ≤ 1000) (hi : 1 ≤ i ∧ i ≤ 1000) (ht : t < 4) (hf : f < u) (hu : u ≤ 1000000) (hs : s < 4294967296) : (adE v i t f u s).may ∧ (adE v i t f u s).ok := by
  unfold adE Ent.may Ent.own Ent.says Ent.ok In64 idOk
  simp
  omega
theorem has_take_add {m : Man} {e : Ent} (h : e.kd = 1) (i : Int) : (m.take e).has i ↔ i = e.id ∨ m.has i := by
  unfold Man.take
  rw [if_pos h]
  unfold Man.has
  simp only [List.mem_map]
  constructor
  · rintro ⟨x, hx, rfl⟩
    rcases mem_insI.1 hx with rfl | hx
    · exact .inl rfl
    · exact .inr ⟨x, hx, rfl⟩
  · rintro (rfl | ⟨x, hx, rfl⟩)
    · exact ⟨e.inf, mem_insI.2 (.inl rfl), rfl⟩
    · exact ⟨x, mem_insI.2 (.inr hx), rfl⟩
theorem has_take_drop {m : Man} {e : Ent} (h : e.kd = 2) (i : Int) : (m.take e).has i ↔ m.has i ∧ i ≠ e.id := by
  unfold Man.take
  rw [if_neg (by omega), if_pos h]
  unfold Man.has
  simp only [List.mem_map, List.mem_filter, decide_eq_true_eq]
  constructor
  · rintro ⟨x, ⟨hx, hn⟩, rfl⟩
    exact ⟨⟨x, hx, rfl⟩, hn⟩
  · rintro ⟨⟨x, hx, rfl⟩, hn⟩
    exact ⟨x, ⟨hx, hn⟩, rfl⟩
theorem nodup_cut {l : List Int} (h : l.Nodup) {j : Nat} (hj : j < l.length) (i : Int) : i ∈ l.take j ++ l.drop (j + 1) ↔ i ∈ l ∧ i ≠ l.getD j 0 := by
  have e : l = l.take j ++ l[j] :: l.drop (j + 1) := by rw [← List.drop_eq_getElem_cons hj, List.take_append_drop]
  have hg : l.getD j 0 = l[j] := by rw [List.getD_eq_getElem?_getD, List.getElem?_eq_getElem hj]; rfl
  rw [hg]
  rw [e] at h
  rw [List.nodup_append] at h
  obtain ⟨h1, h2, h3⟩ := h
  rw [List.nodup_cons] at h2
  constructor
  · intro hi
    refine ⟨?_, ?_⟩
    · rw [e]
      rcases List.mem_append.1 hi with hi | hi
      · exact List.mem_append_left _ hi
      · exact List.mem_append_right _ (List.mem_cons_of_mem _ hi)
    · rintro rfl
      rcases List.mem_append.1 hi with hi | hi
      · exact h3 _ hi _ (List.mem_cons_self ..) rfl
      · exact h2.1 hi
  · rintro ⟨hi, hn⟩
    rw [e] at hi
    rcases List.mem_append.1 hi with hi | hi
    · exact List.mem_append_left _ hi
    · rcases List.mem_cons.1 hi with rfl | hi
      · exact absurd rfl hn
      · exact List.mem_append_right _ hi
theorem nodup_cut2 {l : List Int} (h : l.Nodup) (j : Nat) : (l.take j ++ l.drop (j + 1)).Nodup := by
  rw [← List.eraseIdx_eq_take_drop_succ]
  exact h.sublist (List.eraseIdx_sublist l j)
theorem RwS.Good.zero : RwS.zero.Good 0 := by
  refine ⟨rfl, fun e he => (by simp [RwS.zero] at he), by decide, by decide, by decide, ⟨by decide, by simp [RwS.zero], fun i hi => (by simp [RwS.zero] at hi)⟩, rfl, rfl, fun i => ?_, fun i => ?_⟩
  · simp [RwS.zero, foldOn, Man.zero]; omega
  · simp [RwS.zero, foldOn, Man.zero, Man.has]
theorem may_snoc {l : List Ent} {e : Ent} (h : ∀ d ∈ l, d.may ∧ d.ok) (he : e.may ∧ e.ok) : ∀ d ∈ l ++ [e], d.may ∧ d.ok := by
  intro d hd
  rcases List.mem_append.1 hd with hd | hd
  · exact h d hd
  · rw [List.mem_singleton] at hd
    rw [hd]; exact he
theorem RwS.Good.next {s : RwS} {n : Nat} (h : s.Good n) (hn : n ≤ 100) (k : Nat) : (s.next k).Good (n + 1) := by
  obtain ⟨h1, h2, h3, h4, h5, ⟨h6, h7, h8⟩, h9, h10, h11, h12⟩ := h
  have one : ∀ e, foldOn Man.zero (s.out ++ [e]) = if (foldOn Man.zero s.out).1.fault e = 0 then ((foldOn Man.zero s.out).1.take e, 0) else ((foldOn Man.zero s.out).1, (foldOn Man.zero s.out).1.fault e) := fun e => by
    rw [foldOn_append _ _ _ h9, foldOn_one]
  generalize foldOn Man.zero s.out = M at *
  unfold RwS.next
  by_cases k7 : k % 8 = 7
  · rw [if_pos k7]
    have hm := vwE_may (v := s.vw + 1) (by omega) (by omega)
    have hf : M.1.fault (vwE (s.vw + 1)) = 0 := by
      unfold Man.fault
      rw [if_neg (fun h => h hm.1), if_neg (by simp [vwE]), if_neg (by simp [vwE]), if_neg (by simp only [vwE]; omega)]
    have ho := one (vwE (s.vw + 1))
    rw [if_pos hf] at ho
    refine ⟨?_, may_snoc h2 hm, ?_, ?_, ?_, ⟨?_, h7, h8⟩, ?_, ?_, ?_, ?_⟩
    · simp only [List.length_append, List.length_singleton]; omega
    · simp only; omega
    · simp only; omega
    · simp only; omega
    · simp only; omega
    · simp only [ho]
    · simp only [ho]; rfl
    · simp only [ho]; exact h11
    · simp only [ho]; exact h12
  rw [if_neg k7]
  by_cases k6 : k % 8 = 6
  · rw [if_pos k6]
    have hm := ruE_may (v := s.vw) (k := k / 8 % 3) (by omega) (by omega)
    have hf : M.1.fault (ruE s.vw (k / 8 % 3)) = 0 := by
      unfold Man.fault
      rw [if_neg (fun h => h hm.1), if_neg (by simp [ruE]), if_neg (by simp [ruE]), if_neg (by simp only [ruE]; omega)]
    have ho := one (ruE s.vw (k / 8 % 3))
    rw [if_pos hf] at ho
    refine ⟨?_, may_snoc h2 hm, ?_, ?_, ?_, ⟨?_, h7, h8⟩, ?_, ?_, ?_, ?_⟩
    · simp only [List.length_append, List.length_singleton]; omega
    · simp only; omega
    · simp only; omega
    · simp only; omega
    · simp only; omega
    · simp only [ho]
    · simp only [ho]; rfl
    · simp only [ho]; exact h11
    · simp only [ho]; exact h12
  rw [if_neg k6]
  by_cases k3 : 3 < k % 8 ∧ 0 < s.th.length
  · rw [if_pos k3]
    have hj : k / 8 % s.th.length < s.th.length := Nat.mod_lt _ k3.2
    generalize k / 8 % s.th.length = j at *
    have hmem : s.th.getD j 0 ∈ s.th := by rw [List.getD_eq_getElem?_getD, List.getElem?_eq_getElem hj]; exact List.getElem_mem hj
    have hb := h8 _ hmem
    have hm := drE_may (v := s.vw) (i := s.th.getD j 0) (by omega) (by omega)
    have hf : M.1.fault (drE s.vw (s.th.getD j 0)) = 0 := by
      unfold Man.fault
      rw [if_neg (fun h => h hm.1), if_neg (by simp [drE]), if_neg (fun h => h.2 ((h12 _).2 hmem)), if_neg (by simp only [drE]; omega)]
    have ho := one (drE s.vw (s.th.getD j 0))
    rw [if_pos hf] at ho
    refine ⟨?_, may_snoc h2 hm, ?_, ?_, ?_, ⟨?_, nodup_cut2 h7 j, fun i hi => h8 i ((nodup_cut h7 hj i).1 hi).1⟩, ?_, ?_, ?_, ?_⟩
    · simp only [List.length_append, List.length_singleton]; omega
    · simp only; omega
    · simp only; omega
    · simp only; omega
    · simp only [List.length_append, List.length_take, List.length_drop]; omega
    · simp only [ho]
    · simp only [ho]; rfl
    · simp only [ho]; exact h11
    · intro i
      simp only [ho]
      rw [has_take_drop rfl, nodup_cut h7 hj, h12]
      rfl
  rw [if_neg k3]
  have hm := adE_may (v := s.vw) (i := s.id + 1) (t := k / 8 % 4) (f := s.at_) (u := s.at_ + 1 + k / 8 % 30) (s := k % 4294967296) (by omega) (by omega) (by omega) (by omega) (by omega) (by omega)
  have hf : M.1.fault (adE s.vw (s.id + 1) (k / 8 % 4) s.at_ (s.at_ + 1 + k / 8 % 30) (k % 4294967296)) = 0 := by
    unfold Man.fault
    rw [if_neg (fun h => h hm.1), if_neg (fun h => by
      have := (h11 _).1 h.2
      simp only [adE] at this
      omega), if_neg (by simp [adE]), if_neg (by simp only [adE]; omega)]
  have ho := one (adE s.vw (s.id + 1) (k / 8 % 4) s.at_ (s.at_ + 1 + k / 8 % 30) (k % 4294967296))
  rw [if_pos hf] at ho
  have hnot : ((s.id + 1 : Nat) : Int) ∉ s.th := fun h => by have := h8 _ h; omega
  refine ⟨?_, may_snoc h2 hm, ?_, ?_, ?_, ⟨?_, ?_, fun i hi => ?_⟩, ?_, ?_, ?_, ?_⟩
  · simp only [List.length_append, List.length_singleton]; omega
  · simp only; omega
  · simp only; omega
  · simp only; omega
  · simp only [List.length_append, List.length_singleton]; omega
  · simp only
    rw [List.nodup_append]
    refine ⟨h7, by simp, fun a ha b hb => ?_⟩
    rw [List.mem_singleton] at hb
    rintro rfl
    rw [hb] at ha
    exact hnot ha
  · simp only at hi ⊢
    rcases List.mem_append.1 hi with hi | hi
    · have := h8 i hi; omega
    · rw [List.mem_singleton] at hi; omega
  · simp only [ho]
  · simp only [ho]; rfl
  · intro i
    simp only [ho]
    have e : (M.1.take (adE s.vw (s.id + 1) (k / 8 % 4) s.at_ (s.at_ + 1 + k / 8 % 30) (k % 4294967296))).ev = ((s.id + 1 : Nat) : Int) :: M.1.ev := rfl
    rw [e, List.mem_cons, h11]
    omega
  · intro i
    simp only [ho]
    rw [has_take_add rfl, h12, List.mem_append, List.mem_singleton]
    have e : (adE s.vw (s.id + 1) (k / 8 % 4) s.at_ (s.at_ + 1 + k / 8 % 30) (k % 4294967296)).id = ((s.id + 1 : Nat) : Int) := rfl
    rw [e]
    exact Or.comm
theorem rwOn_good : ∀ (l : List Nat) (s : RwS) (n : Nat), s.Good n → n + l.length ≤ 100 → (rwOn s l).Good (n + l.length)
  | [], s, n, h, _ => h
  | k :: r, s, n, h, hl => by
    rw [List.length_cons] at hl ⊢
    have := rwOn_good r (s.next k) (n + 1) (h.next (by omega) k) (by omega)
    rw [rwOn]
    rwa [show n + (r.length + 1) = n + 1 + r.length by omega]
theorem rwOn_take {l : List Nat} {s : RwS} : ∀ {i : Nat}, i < l.length → rwOn s (l.take (i + 1)) = (rwOn s (l.take i)).next (l.getD i 0) := by
  intro i hi
  have e : l.take (i + 1) = l.take i ++ [l.getD i 0] := by
    rw [List.take_succ_eq_append_getElem hi, List.getD_eq_getElem?_getD, List.getElem?_eq_getElem hi]; rfl
  have h : ∀ (a b : List Nat) (s : RwS), rwOn s (a ++ b) = rwOn (rwOn s a) b := by
    intro a
    induction a with
    | nil => intro b s; rfl
    | cons x a ih => intro b s; rw [List.cons_append, rwOn, rwOn, ih]
  rw [e, h]
  rfl
theorem rows_good (l : List Nat) : (rwOn RwS.zero (l.take 40)).Good (min 40 l.length) := by
  have := rwOn_good (l.take 40) RwS.zero 0 RwS.Good.zero (by rw [List.length_take]; omega)
  rwa [List.length_take, Nat.zero_add] at this
end Go.Proofs.YtdpoahjgdndnhaaDoor
set_option maxRecDepth 100000
namespace Go.Proofs.YtdpoahjgdndnhaaDoor
open Go.RowKit
attribute [local go_sem ↓] Go.wp_at_zero Go.wp_at_succ
set_option linter.unusedVariables false

/-- The slice at A reads as the integers l. -/
def Ints (w : World) (A : Option Addr) (len cap : Nat) (l : List Int) : Prop :=
  l.length = len ∧ (∀ n ∈ l, In64 n) ∧ (0 < len → ∃ b off, A = some ⟨b, off, none⟩ ∧ ∀ j, j < len → w.cell? ⟨b, off + j, none⟩ = some (.int .i64 (l.getD j 0))) ∧ len ≤ cap ∧ cap ≤ maxLen ∧ (A = none → cap = 0)
theorem Ints.below {w w' : World} {A : Option Addr} {len cap : Nat} {l : List Int} (h : Ints w A len cap l) (hb : Below w.heap.size w w') : Ints w' A len cap l := by
  obtain ⟨h1, h2, h3, h4, h5, h6⟩ := h
  refine ⟨h1, h2, fun h0 => ?_, h4, h5, h6⟩
  obtain ⟨b, off, e, hc⟩ := h3 h0
  exact ⟨b, off, e, fun j hj => by rw [hb.cell (World.block_lt_of_cell? w _ (hc j hj))]; exact hc j hj⟩
theorem Tryd.info3 : (Tryd.prog.info? 3).map (fun i => (i.zero, i.size, i.bytes)) = some (some (.int .i64 0), 1, 8) := by kernel_rfl
def intV (l : List Int) : List Value := l.map fun n => .int .i64 n
theorem intV_length (l : List Int) : (intV l).length = l.length := by simp [intV]
theorem intV_append (a b : List Int) : intV (a ++ b) = intV a ++ intV b := by simp [intV]
theorem intV_get {l : List Int} {j : Nat} (h : j < l.length) : (intV l)[j]? = some (.int .i64 (l.getD j 0)) := by simp [intV, h]
theorem intV_one (l : List Int) : ∀ u ∈ intV l, u.oneCell' = true := by
  intro u hu
  unfold intV at hu
  obtain ⟨c, _, rfl⟩ := List.mem_map.1 hu
  rfl
/-- A row of Ids of the call's own: whole, or shut behind its last. -/
def ThRow (w : World) (base : Nat) (A : Option Addr) (cap : Nat) (l : List Int) : Prop :=
  w.ownsRow base 3 1 (.slice A l.length cap) l.length (intV l) ∨
  (cap = l.length ∧ ∃ g cur, A = some ⟨g, 0, none⟩ ∧ base ≤ g ∧ w.heap[g]? = some (.cells cur 3 (0, 0)) ∧ cap ≤ maxLen ∧ cur.toList.take l.length = intV l)
theorem ThRow.none (w : World) (base : Nat) : ThRow w base none 0 [] := .inl (World.ownsRow_nil _ _ _ _)
theorem ThRow.le {w : World} {base : Nat} {A : Option Addr} {cap : Nat} {l : List Int} (h : ThRow w base A cap l) : l.length ≤ cap ∧ cap ≤ maxLen := by
  rcases h with h | ⟨h, g, cur, _, _, _, h5, _⟩
  · rcases h.2 with ⟨e, e0⟩ | ⟨g, cap', cur, e, _, _, h1, h2, _⟩
    · injection e with e1 e2 e3
      subst e3
      exact ⟨by omega, by unfold maxLen; omega⟩
    · injection e with e1 e2 e3
      subst e3
      exact ⟨h1, h2⟩
  · exact ⟨by omega, h5⟩
theorem ThRow.at_ {w : World} {base : Nat} {A : Option Addr} {cap : Nat} {l : List Int} (h : ThRow w base A cap l) (h0 : 0 < l.length) :
    ∃ g cur, A = some ⟨g, 0, Option.none⟩ ∧ base ≤ g ∧ w.heap[g]? = some (.cells cur 3 (0, 0)) ∧ cur.toList.take l.length = intV l ∧ ∀ j, j < l.length → w.cell? ⟨g, j, Option.none⟩ = some (.int .i64 (l.getD j 0)) := by
  have key : ∀ g cur, w.heap[g]? = some (.cells cur 3 (0, 0)) → cur.toList.take l.length = intV l → ∀ j, j < l.length → w.cell? ⟨g, j, Option.none⟩ = some (.int .i64 (l.getD j 0)) := fun g cur hh ht j hj => by
    rw [cell_of_row w g j cur 3 (0, 0) hh]
    have := intV_get hj
    rw [← ht, List.getElem?_take, if_pos hj] at this
    simpa using this
  rcases h with h | ⟨h, g, cur, e, h3, h4, h5, h6⟩
  · rcases h.2 with ⟨_, e0⟩ | ⟨g, cap', cur, e, h3, h4, h1, h2, h5, h6⟩
    · omega
    · injection e with e1 e2 e3
      rw [Nat.mul_one] at h6
      exact ⟨g, cur, e1, h3, h4, h6, key g cur h4 h6⟩
  · exact ⟨g, cur, e, h3, h4, h6, key g cur h4 h6⟩
theorem ThRow.kept {w w' : World} {base base2 : Nat} {A : Option Addr} {cap : Nat} {l : List Int} {row : Option Nat} (h : ThRow w base A cap l) (hg : w.grownBy w' row) (hr : ∀ k, row = some k → ∀ cur, w.heap[k]? ≠ some (.cells cur 3 (0, 0))) : ThRow w' base A cap l := by
  rcases h with h | ⟨h, g, cur, e, h3, h4, h5, h6⟩
  · refine .inl (h.kept hg ?_)
    rcases h.2 with ⟨e, _⟩ | ⟨g, cap', cur, e, _, hh, _⟩
    · left; rw [e]; rfl
    · right
      rw [e]
      intro e2
      exact hr g e2.symm cur hh
  · refine .inr ⟨h, g, cur, e, h3, ?_, h5, h6⟩
    rw [hg.block g (Array.getElem?_eq_some_iff.1 h4).1 (fun e2 => hr g e2.symm cur h4)]
    exact h4
theorem ThRow.below {w w' : World} {base : Nat} {A : Option Addr} {cap : Nat} {l : List Int} (h : ThRow w base A cap l) (hb : Below w.heap.size w w') : ThRow w' base A cap l :=
  h.kept (base2 := 0) (row := Option.none) ⟨hb.os, hb.tape, hb.output, hb.size, fun k hk _ => hb.block k hk⟩ (fun k e => by cases e)
theorem own_typed {w : World} {base size n : Nat} {e : TypeId} {v : Value} {xs : List Value} (h : w.ownsRow base e size v n xs) (he : e ≠ 3) : ∀ k, v.ownBlock = some k → ∀ cur, w.heap[k]? ≠ some (.cells cur 3 (0, 0)) := by
  intro k hk cur hh
  rcases h.2 with ⟨rfl, _⟩ | ⟨g, cap', cur', rfl, _, h4, _⟩
  · cases hk
  · injection hk with hk
    change g = k at hk
    subst hk
    rw [h4] at hh
    injection hh with hh
    injection hh with _ hh _
    exact he hh
theorem ThRow.typed {w : World} {base : Nat} {A : Option Addr} {cap : Nat} {l : List Int} (h : ThRow w base A cap l) (n : Nat) : ∀ k, (Value.slice A n cap).ownBlock = some k → (∃ cur, w.heap[k]? = some (.cells cur 3 (0, 0))) ∧ base ≤ k := by
  intro k hk
  rcases h with h | ⟨_, g, cur, rfl, h3, h4, _⟩
  · rcases h.2 with ⟨e, _⟩ | ⟨g, cap', cur, e, h3, h4, _⟩
    · injection e with e1 e2 e3
      subst e1
      cases hk
    · injection e with e1 e2 e3
      subst e1
      injection hk with hk
      change g = k at hk
      subst hk
      exact ⟨⟨cur, h4⟩, h3⟩
  · injection hk with hk
    change g = k at hk
    subst hk
    exact ⟨⟨cur, h4⟩, h3⟩
theorem typed_apart {w : World} {base base2 size n m : Nat} {e : TypeId} {v : Value} {xs : List Value} {A : Option Addr} {cap : Nat} {l : List Int} (h : w.ownsRow base e size v n xs) (h2 : ThRow w base2 A cap l) (he : e ≠ 3) :
    v.ownBlock = none ∨ v.ownBlock ≠ (Value.slice A m cap).ownBlock := by
  cases hv : v.ownBlock with
  | none => exact .inl rfl
  | some k =>
    right
    intro e2
    obtain ⟨⟨cur, hh⟩, _⟩ := h2.typed m k e2.symm
    exact own_typed h he k hv cur hh
theorem grown_weak {w w' : World} (h : w.grownBy w' none) (row : Option Nat) : w.grownBy w' row := ⟨h.os, h.tape, h.output, h.size, fun k hk _ => h.block k hk (by simp)⟩
/-- append(v, x...) onto such a row, of one Id. -/
theorem wpList_append_th {w : World} {ops : Array Oper} {rest : List Oper} {o : Oper} {a : Act} {Q : Exit → Act → World → Prop} (hgd : o.guard = none) (s x : Operand)
    (ho : o.op = .call { callee := .builtin .append, args := #[s, x], argTypes := #[46, 46] }) (base : Nat) (A : Option Addr) (cap : Nat) (l : List Int) (y : Int) (hs : a.eval s = .slice A l.length cap) (hown : ThRow w base A cap l)
    (b c : Nat) (hx : a.eval x = .slice (some ⟨b, 0, none⟩) 1 c) (hc : w.cell? ⟨b, 0, none⟩ = some (.int .i64 y)) (hlen : l.length ≤ 1000) (hbase : base ≤ w.heap.size)
    (h : ∀ v' w', w'.ownsRow base 3 1 v' (l.length + 1) (intV (l ++ [y])) → w.grownBy w' (Value.slice A l.length cap).ownBlock → wpList Tryd.prog ops Q rest (a.put o.dst v') w') : wpList Tryd.prog ops Q (o :: rest) a w := by
  obtain ⟨i0', hi, hz0, hz1, hz2⟩ := info_parts Tryd.info3
  have hcx : ∀ j u, (intV [y])[j]? = some u → w.cell? ((⟨b, 0, Option.none⟩ : Addr).add j) = some u := fun j u hj => by
    have hj0 : j = 0 := by
      have := (List.getElem?_eq_some_iff.1 hj).1
      simp [intV] at this
      omega
    subst hj0
    simp [intV] at hj
    rw [addr_add, ← hj]
    exact hc
  rcases hown with hown | ⟨hcap, g, cur, rfl, h3, h4, h5, h6⟩
  · refine wpList_append_own w hgd s x 46 ho base 3 i0' (.int .i64 0) 1 8 Tryd.underlying46 hi hz0 hz1 hz2 rfl (by decide) _ l.length (intV l) hs hown ⟨b, 0, Option.none⟩ 1 c (intV [y]) hx rfl hcx (intV_one _) (by unfold maxLen; omega) (by omega) hbase ?_
    intro v' w' h1 h2 _
    exact h v' w' (by rw [intV_append]; exact h1) h2
  · refine wpList_append_grows w hgd s x 46 ho 3 i0' (.int .i64 0) 1 8 Tryd.underlying46 hi hz0 hz1 hz2 rfl (by decide) _ l.length cap (intV l) hs (fun e => by cases e) (by rw [intV_length]; omega) ?_ ⟨b, 0, Option.none⟩ 1 c (intV [y]) hx rfl hcx (intV_one _) (by omega) (by unfold maxLen; omega) (by omega) ?_
    · intro b' e j u hj
      injection e with e
      subst e
      have hlt : j < l.length := by have := (List.getElem?_eq_some_iff.1 hj).1; rwa [intV_length] at this
      rw [addr_add, Nat.zero_add, cell_of_row w g j cur 3 (0, 0) h4]
      rw [← h6, List.getElem?_take, if_pos hlt] at hj
      simpa using hj
    · intro v' w' h1 h2
      refine h v' w' ?_ (grown_weak h2 _)
      have h1' : w'.ownsRow base 3 1 v' (l.length + 1) (intV l ++ intV [y]) := by
        refine ⟨h1.1, ?_⟩
        rcases h1.2 with h | ⟨g, cap, cur, e1, e2, r⟩
        · exact .inl h
        · exact .inr ⟨g, cap, cur, e1, Nat.le_trans hbase e2, r⟩
      rw [intV_append]; exact h1'
/-- Amid the making. -/
structure RWI (w wr : World) (v3 : Value) (A4 : Option Addr) (c4 : Nat) (s : RwS) : Prop where
  own : wr.ownsRow w.heap.size 25 8 v3 s.out.length (entV s.out)
  th : ThRow wr w.heap.size A4 c4 s.th
  below : Below w.heap.size w wr
theorem RWI.on {w wr wx : World} {v3 : Value} {A4 : Option Addr} {c4 : Nat} {s : RwS} (h : RWI w wr v3 A4 c4 s) (hb : Below wr.heap.size wr wx) : RWI w wx v3 A4 c4 s :=
  ⟨h.own.kept (row := none) ⟨hb.os, hb.tape, hb.output, hb.size, fun k hk _ => hb.block k hk⟩ (by cases v3.ownBlock <;> simp), h.th.below hb, past h.below hb⟩
theorem own_some2 {w : World} {base size n : Nat} {e : TypeId} {v : Value} {xs : List Value} (h : w.ownsRow base e size v n xs) (h0 : 0 < n) : ∃ g cap, v = .slice (some ⟨g, 0, none⟩) n cap := by
  rcases h.2 with ⟨_, e0⟩ | ⟨g, cap, cur, e1, _⟩
  · omega
  · exact ⟨g, cap, e1⟩
theorem RWI.add {w wr wy wx : World} {v3 v5 : Value} {A4 : Option Addr} {c4 : Nat} {s : RwS} {e : Ent} (h : RWI w wr v3 A4 c4 s) (hb : Below wr.heap.size wr wy)
    (ho : wx.ownsRow w.heap.size 25 8 v5 (s.out.length + 1) (entV (s.out ++ [e]))) (hg : wy.grownBy wx v3.ownBlock) :
    (∃ A5 c5, v5 = .slice A5 (s.out.length + 1) c5) ∧ ∀ s' : RwS, s'.out = s.out ++ [e] → s'.th = s.th → RWI w wx v5 A4 c4 s' := by
  have h2 := h.on hb
  obtain ⟨g', c', e'⟩ := own_some2 ho (by omega)
  refine ⟨⟨_, c', e'⟩, fun s' e1 e2 => ⟨?_, ?_, ?_⟩⟩
  · rw [e1, List.length_append]; exact ho
  · rw [e2]; exact h2.th.kept (base2 := 0) hg (own_typed h2.own (by decide))
  · exact h2.below.grown hg h2.below.size (fun k h => (h2.own.lt k h).1)
theorem row_ent (e : Ent) (he : e.ok) (u : World) (k v i t f l s : Int) (tx : ByteArray) (h : e = ⟨k, v, i, t, f, l, s, e.tx⟩) (ht : tx = ⟨e.tx.toArray⟩) : EntRow (u.alloc (.cells #[.int .i64 k, .int .i64 v, .int .i64 i, .int .i64 t, .int .i64 f, .int .i64 l, .int .u32 s, .string tx] 25)) (some ⟨u.heap.size, 0, none⟩) 1 1 [e] := by
  have := row_one e he u
  rw [h] at this ⊢
  rw [ht]
  exact this
theorem seal_text0 (v : Nat) : ((⟨#[115, 101, 97, 108, 32]⟩ : ByteArray) ++ ⟨#[49]⟩) = ⟨(ruE v 0).tx.toArray⟩ := ByteArray.ext (by simp [ruE, sealT])
theorem seal_text1 (v : Nat) : ((⟨#[115, 101, 97, 108, 32]⟩ : ByteArray) ++ ⟨#[57]⟩) = ⟨(ruE v 1).tx.toArray⟩ := ByteArray.ext (by simp [ruE, sealT])
theorem seal_text2 (v : Nat) : ((⟨#[115, 101, 97, 108, 32]⟩ : ByteArray) ++ ⟨#[51, 51]⟩) = ⟨(ruE v 2).tx.toArray⟩ := ByteArray.ext (by simp [ruE, sealT])
def natI (z : Int) : Nat := (IntKind.u64.wrap z).toNat
theorem natI_is (z : Int) : IntKind.u64.wrap z = (natI z : Int) := by unfold natI; rw [IntKind.wrap_u64]; omega
theorem natI_lt (z : Int) : natI z < 18446744073709551616 := by unfold natI; rw [IntKind.wrap_u64]; omega
def RowsPost (w : World) (l : List Ent) (e : Ending) (w' : World) : Prop := ∃ A' cap', e = .returned (.slice A' l.length cap') ∧ EntRow w' A' l.length cap' l ∧ Below w.heap.size w w'
set_option maxHeartbeats 8000000 in
theorem rows_any {A : Option Addr} {n cap : Nat} {l : List Int} {w : World} (h : Ints w A n cap l) : Calls Tryd.prog 25 #[.slice A n cap] w (RowsPost w (rowsOf (l.map natI))) := by
  obtain ⟨R, hR⟩ : ∃ R, R = rowsOf (l.map natI) := ⟨_, rfl⟩
  rw [← hR]
  have HR := Lib.hid hR
  have HN := Lib.hid h.1
  have HROW : Hid (∀ u, Below w.heap.size w u → Ints u A n cap l) := Lib.hid (fun u hu => h.below hu)
  have hmax := h.2.2.2.2.1
  have hle := h.2.2.2.1
  unfold maxLen at hmax
  clear hR h
  go_enter Tryd.func25, Tryd.ntmps25
  go_wp2
  go_loopw [3, 4, 5, 6, 7, 8] (fun s3 s4 s5 s6 s7 s8 wr => ∃ (i : Nat) (s : RwS) (A3 : Option Addr) (c3 : Nat) (A4 : Option Addr) (c4 : Nat), s3 = .slice A3 s.out.length c3 ∧ s4 = .slice A4 s.th.length c4 ∧ s5 = .int .i64 (s.vw : Int) ∧ s6 = .int .i64 (s.id : Int) ∧ s7 = .int .i64 (s.at_ : Int) ∧ s8 = .int .i64 (i : Int) ∧ i ≤ n ∧ i ≤ 40 ∧ Hid (s = rwOn RwS.zero ((l.map natI).take i)) ∧ Hid (s.Good i) ∧ Hid (RWI w wr s3 A4 c4 s)) (fun _ _ _ _ _ si _ => n - (intOf si).toNat)
  case atStart => exact ⟨0, RwS.zero, none, 0, none, 0, rfl, rfl, rfl, rfl, rfl, rfl, Nat.zero_le _, Nat.zero_le _, Lib.hid rfl, Lib.hid RwS.Good.zero, Lib.hid ⟨World.ownsRow_nil _ _ _ _, ThRow.none _ _, Below.refl _ _⟩⟩
  case round =>
    obtain ⟨i, s, A3, c3, A4, c4, rfl, rfl, rfl, rfl, rfl, rfl, hi, hi40, HS, HG, HI⟩ := hrel
    have fin : ¬ (i < n ∧ i < 40) → Hid (∃ A' cap', Value.slice A3 s.out.length c3 = .slice A' R.length cap' ∧ EntRow wr A' R.length cap' R ∧ Below w.heap.size w wr) := fun hx => Lib.hid (by
      have hk : (l.map natI).take i = (l.map natI).take 40 := by
        rcases Nat.lt_or_ge i n with h1 | h1
        · obtain rfl : i = 40 := by omega
          rfl
        · rw [List.take_of_length_le (by rw [List.length_map, HN.out]; omega), List.take_of_length_le (by rw [List.length_map, HN.out]; omega)]
      have hRs : R = s.out := by rw [HR.out, HS.out, hk]; rfl
      obtain ⟨A', cap', e, h, _⟩ := entRow_own HI.out.own (fun e he => (HG.out.may e he).2)
      rw [hRs]
      exact ⟨A', cap', e, h, HI.out.below⟩)
    by_cases h1 : i < n
    case neg =>
      have HF := fin (fun h => h1 h.1)
      have i1 : ¬ (i : Int) < (n : Int) := by omega
      clear fin h1
      go_wp2
      (try rw [Exit.noGoto_ret])
      go_ret
      obtain ⟨A', cap', e, h, hb⟩ := HF.out
      injection e with e1 e2 e3
      subst e1 e3
      exact ⟨_, _, by rw [e2]; rfl, h, hb⟩
    by_cases h2 : i < 40
    case neg =>
      have HF := fin (fun h => h2 h.2)
      have i1 : (i : Int) < (n : Int) := by omega
      have i2 : ¬ (i : Int) < 40 := by omega
      clear fin h1
      go_wp2
      (try rw [Exit.noGoto_ret])
      go_ret
      obtain ⟨A', cap', e, h, hb⟩ := HF.out
      injection e with e1 e2 e3
      subst e1 e3
      exact ⟨_, _, by rw [e2]; rfl, h, hb⟩
    have i1 : (i : Int) < (n : Int) := by omega
    have i2 : (i : Int) < 40 := by omega
    have i0 : (0 : Int) ≤ (i : Int) := by omega
    clear fin
    obtain ⟨z, hz⟩ : ∃ z, l.getD i 0 = z := ⟨_, rfl⟩
    obtain ⟨b, off, rfl, hcell⟩ := (HROW.out _ HI.out.below).2.2.1 (by omega)
    have c0 := hcell i h1
    rw [hz] at c0
    have HZ := Lib.hid hz
    have hk := natI_is z
    have hkl := natI_lt z
    have HNEXT : Hid (s.next (natI z) = rwOn RwS.zero ((l.map natI).take (i + 1))) := Lib.hid (by
      rw [rwOn_take (by rw [List.length_map, HN.out]; exact h1), ← HS.out]
      congr 1
      rw [List.getD_eq_getElem?_getD, List.getElem?_map, List.getElem?_eq_getElem (by rw [HN.out]; exact h1)]
      rw [← HZ.out, List.getD_eq_getElem?_getD, List.getElem?_eq_getElem (by rw [HN.out]; exact h1)]
      rfl)
    have HG2 : Hid ((s.next (natI z)).Good (i + 1)) := Lib.hid (HG.out.next (by omega) _)
    clear hcell hz
    generalize natI z = k at *
    obtain ⟨r, hr⟩ : ∃ r, r = k % 8 := ⟨_, rfl⟩
    obtain ⟨q, hq⟩ : ∃ q, q = k / 8 := ⟨_, rfl⟩
    have m8 : (k : Int).tmod 8 = (r : Int) := by rw [Int.tmod_eq_emod_of_nonneg (by omega)]; omega
    have m8' : (k : Int) % 8 = (r : Int) := by omega
    have hrl : r < 8 := by omega
    have HRK := Lib.hid hr
    have HQK := Lib.hid hq
    go_upto_region 13 with fail
    by_cases r7 : r = 7
    case pos =>
      have i7 : ((r : Int) == 7) = true := by simp; omega
      have i7' : (r : Int) = 7 := by omega
      clear hr hq
      have iv : IntKind.i64.wrap ((s.vw : Int) + 1) = ((s.vw + 1 : Nat) : Int) := by have := HG.out.vw; rw [IntKind.wrap_i64]; omega
      go_upto_region 15 with fail
      have hnx : s.next k = ⟨s.out ++ [vwE (s.vw + 1)], s.th, s.vw + 1, s.id, s.at_⟩ := by unfold RwS.next; rw [if_pos (by omega)]
      rw [hnx] at HNEXT HG2
      have HE : Hid ((vwE (s.vw + 1)).ok) := Lib.hid (vwE_may (by omega) (by have := HG.out.vw; omega)).2
      have HLEN : Hid (s.out.length + 1 ≤ 100000) := Lib.hid (by have := HG.out.len; omega)
      have HOW := Lib.hid (HI.out.on (below_box wr (.cells #[.int .i64 3, .int .i64 ((s.vw + 1 : Nat) : Int), .int .i64 0, .int .i64 0, .int .i64 0, .int .i64 0, .int .u32 0, .string ⟨#[]⟩] 25)))
      clear hnx r7 hrl m8 m8'
      go_wp2_with (at_builtin; refine wpList_append_ents rfl _ _ rfl w.heap.size _ s.out.length 1 s.out [vwE (s.vw + 1)] rfl HOW.out.own _ _ rfl (row_ent _ HE.out wr _ _ _ _ _ _ _ _ rfl rfl) HLEN.out HOW.out.below.size ?_)
      intro v5 w5 hown hgrow
      have HX := Lib.hid (HI.out.add (below_box _ _) hown hgrow)
      clear hown hgrow HOW HE HLEN
      obtain ⟨A5, c5, rfl⟩ := HX.out.1
      go_wp2
      go_roundw
      case rel => exact ⟨i + 1, ⟨s.out ++ [vwE (s.vw + 1)], s.th, s.vw + 1, s.id, s.at_⟩, A5, c5, A4, c4, by simp, rfl, by go_num, rfl, rfl, by go_num, by omega, by omega, HNEXT, HG2, Lib.hid (HX.out.2 _ rfl rfl)⟩
      case measure => simp [intOf]; omega
    have n7 : ((r : Int) == 7) = false := by simp; omega
    have n7' : ¬ (r : Int) = 7 := by omega
    have HLEN : Hid (s.out.length + 1 ≤ 100000) := Lib.hid (by have := HG.out.len; omega)
    have d8 : (k : Int).tdiv 8 = (q : Int) := by rw [Int.tdiv_eq_ediv_of_nonneg (by omega)]; omega
    have d8' : (k : Int) / 8 = (q : Int) := by omega
    have hrk : r = k % 8 := hr
    by_cases r6 : r = 6
    · have i6 : ((r : Int) == 6) = true := by simp; omega
      have i6' : (r : Int) = 6 := by omega
      have i7 := n7
      have i7' := n7'
      obtain ⟨t, ht⟩ : ∃ t, t = q % 3 := ⟨_, rfl⟩
      rcases (by omega : t = 0 ∨ t = 1 ∨ t = 2) with rfl | rfl | rfl
      · have t3 : (q : Int).tmod 3 = 0 := by rw [Int.tmod_eq_emod_of_nonneg (by omega)]; omega
        have t3' : (q : Int) % 3 = 0 := by omega
        have hnx : s.next k = ⟨s.out ++ [ruE s.vw 0], s.th, s.vw, s.id, s.at_⟩ := by
          unfold RwS.next
          rw [if_neg (by omega), if_pos (by omega), show k / 8 % 3 = 0 by omega]
        rw [hnx] at HNEXT HG2
        have HE : Hid ((ruE s.vw 0).ok) := Lib.hid (ruE_may (by have := HG.out.vw; omega) (by omega)).2
        clear hnx r6 hrl ht hr hq hrk
        have HRW := row_ent (ruE s.vw 0) HE.out (wr.alloc (.cells #[.string ⟨#[49]⟩, .string ⟨#[57]⟩, .string ⟨#[51, 51]⟩] 9)) 4 (s.vw : Int) 0 0 0 0 0 _ rfl (seal_text0 s.vw)
        rw [World.size_alloc] at HRW
        have HRW := Lib.hid HRW
        have HOW := Lib.hid (HI.out.on (wx := (wr.alloc (.cells #[.string ⟨#[49]⟩, .string ⟨#[57]⟩, .string ⟨#[51, 51]⟩] 9)).alloc (.cells #[.int .i64 4, .int .i64 (s.vw : Int), .int .i64 0, .int .i64 0, .int .i64 0, .int .i64 0, .int .u32 0, .string ((⟨#[115, 101, 97, 108, 32]⟩ : ByteArray) ++ ⟨#[49]⟩)] 25)) (past_alloc (below_box _ _) _))
        go_upto_region 17 with fail
        clear m8 m8' i7 i7' i6 i6'
        go_wp2_with (at_builtin; refine wpList_append_ents rfl _ _ rfl w.heap.size _ s.out.length 1 s.out [ruE s.vw 0] rfl HOW.out.own _ _ rfl HRW.out HLEN.out HOW.out.below.size ?_)
        intro v5 w5 hown hgrow
        have HX := Lib.hid (HI.out.add (past_alloc (below_box _ _) _) hown hgrow)
        clear hown hgrow HOW HE HLEN
        obtain ⟨A5, c5, rfl⟩ := HX.out.1
        go_wp2
        go_roundw
        case rel => exact ⟨i + 1, ⟨s.out ++ [ruE s.vw 0], s.th, s.vw, s.id, s.at_⟩, A5, c5, A4, c4, by simp, rfl, rfl, rfl, rfl, by go_num, by omega, by omega, HNEXT, HG2, Lib.hid (HX.out.2 _ rfl rfl)⟩
        case measure => simp [intOf]; omega
      · have t3 : (q : Int).tmod 3 = 1 := by rw [Int.tmod_eq_emod_of_nonneg (by omega)]; omega
        have t3' : (q : Int) % 3 = 1 := by omega
        have hnx : s.next k = ⟨s.out ++ [ruE s.vw 1], s.th, s.vw, s.id, s.at_⟩ := by
          unfold RwS.next
          rw [if_neg (by omega), if_pos (by omega), show k / 8 % 3 = 1 by omega]
        rw [hnx] at HNEXT HG2
        have HE : Hid ((ruE s.vw 1).ok) := Lib.hid (ruE_may (by have := HG.out.vw; omega) (by omega)).2
        clear hnx r6 hrl ht hr hq hrk
        have HRW := row_ent (ruE s.vw 1) HE.out (wr.alloc (.cells #[.string ⟨#[49]⟩, .string ⟨#[57]⟩, .string ⟨#[51, 51]⟩] 9)) 4 (s.vw : Int) 0 0 0 0 0 _ rfl (seal_text1 s.vw)
        rw [World.size_alloc] at HRW
        have HRW := Lib.hid HRW
        have HOW := Lib.hid (HI.out.on (wx := (wr.alloc (.cells #[.string ⟨#[49]⟩, .string ⟨#[57]⟩, .string ⟨#[51, 51]⟩] 9)).alloc (.cells #[.int .i64 4, .int .i64 (s.vw : Int), .int .i64 0, .int .i64 0, .int .i64 0, .int .i64 0, .int .u32 0, .string ((⟨#[115, 101, 97, 108, 32]⟩ : ByteArray) ++ ⟨#[57]⟩)] 25)) (past_alloc (below_box _ _) _))
        go_upto_region 17 with fail
        clear m8 m8' i7 i7' i6 i6'
        go_wp2_with (at_builtin; refine wpList_append_ents rfl _ _ rfl w.heap.size _ s.out.length 1 s.out [ruE s.vw 1] rfl HOW.out.own _ _ rfl HRW.out HLEN.out HOW.out.below.size ?_)
        intro v5 w5 hown hgrow
        have HX := Lib.hid (HI.out.add (past_alloc (below_box _ _) _) hown hgrow)
        clear hown hgrow HOW HE HLEN
        obtain ⟨A5, c5, rfl⟩ := HX.out.1
        go_wp2
        go_roundw
        case rel => exact ⟨i + 1, ⟨s.out ++ [ruE s.vw 1], s.th, s.vw, s.id, s.at_⟩, A5, c5, A4, c4, by simp, rfl, rfl, rfl, rfl, by go_num, by omega, by omega, HNEXT, HG2, Lib.hid (HX.out.2 _ rfl rfl)⟩
        case measure => simp [intOf]; omega
      · have t3 : (q : Int).tmod 3 = 2 := by rw [Int.tmod_eq_emod_of_nonneg (by omega)]; omega
        have t3' : (q : Int) % 3 = 2 := by omega
        have hnx : s.next k = ⟨s.out ++ [ruE s.vw 2], s.th, s.vw, s.id, s.at_⟩ := by
          unfold RwS.next
          rw [if_neg (by omega), if_pos (by omega), show k / 8 % 3 = 2 by omega]
        rw [hnx] at HNEXT HG2
        have HE : Hid ((ruE s.vw 2).ok) := Lib.hid (ruE_may (by have := HG.out.vw; omega) (by omega)).2
        clear hnx r6 hrl ht hr hq hrk
        have HRW := row_ent (ruE s.vw 2) HE.out (wr.alloc (.cells #[.string ⟨#[49]⟩, .string ⟨#[57]⟩, .string ⟨#[51, 51]⟩] 9)) 4 (s.vw : Int) 0 0 0 0 0 _ rfl (seal_text2 s.vw)
        rw [World.size_alloc] at HRW
        have HRW := Lib.hid HRW
        have HOW := Lib.hid (HI.out.on (wx := (wr.alloc (.cells #[.string ⟨#[49]⟩, .string ⟨#[57]⟩, .string ⟨#[51, 51]⟩] 9)).alloc (.cells #[.int .i64 4, .int .i64 (s.vw : Int), .int .i64 0, .int .i64 0, .int .i64 0, .int .i64 0, .int .u32 0, .string ((⟨#[115, 101, 97, 108, 32]⟩ : ByteArray) ++ ⟨#[51, 51]⟩)] 25)) (past_alloc (below_box _ _) _))
        go_upto_region 17 with fail
        clear m8 m8' i7 i7' i6 i6'
        go_wp2_with (at_builtin; refine wpList_append_ents rfl _ _ rfl w.heap.size _ s.out.length 1 s.out [ruE s.vw 2] rfl HOW.out.own _ _ rfl HRW.out HLEN.out HOW.out.below.size ?_)
        intro v5 w5 hown hgrow
        have HX := Lib.hid (HI.out.add (past_alloc (below_box _ _) _) hown hgrow)
        clear hown hgrow HOW HE HLEN
        obtain ⟨A5, c5, rfl⟩ := HX.out.1
        go_wp2
        go_roundw
        case rel => exact ⟨i + 1, ⟨s.out ++ [ruE s.vw 2], s.th, s.vw, s.id, s.at_⟩, A5, c5, A4, c4, by simp, rfl, rfl, rfl, rfl, by go_num, by omega, by omega, HNEXT, HG2, Lib.hid (HX.out.2 _ rfl rfl)⟩
        case measure => simp [intOf]; omega
    have n6 : ((r : Int) == 6) = false := by simp; omega
    have n6' : ¬ (r : Int) = 6 := by omega
    by_cases r3 : 3 < r
    case neg =>
      have g3 : ¬ (r : Int) > 3 := by omega
      have hno : ¬ (3 < r ∧ 0 < s.th.length) := fun h => r3 h.1
      have hvb := HG.out.vw
      have hib := HG.out.id
      have hab := HG.out.at_
      have hnx : s.next k = ⟨s.out ++ [adE s.vw (s.id + 1) (q % 4) s.at_ (s.at_ + 1 + q % 30) (k % 4294967296)], s.th ++ [((s.id + 1 : Nat) : Int)], s.vw, s.id + 1, s.at_ + 1 + q % 30⟩ := by
        unfold RwS.next
        rw [if_neg (by omega), if_neg (by omega), if_neg (by omega), ← hq]
      rw [hnx] at HNEXT HG2
      have HE : Hid ((adE s.vw (s.id + 1) (q % 4) s.at_ (s.at_ + 1 + q % 30) (k % 4294967296)).ok) := Lib.hid (adE_may (by omega) (by omega) (by omega) (by omega) (by omega) (by omega)).2
      obtain ⟨t4, ht4⟩ : ∃ t4, t4 = q % 4 := ⟨_, rfl⟩
      obtain ⟨t30, ht30⟩ : ∃ t30, t30 = q % 30 := ⟨_, rfl⟩
      obtain ⟨id2, hid2⟩ : ∃ n : Nat, n = s.id + 1 := ⟨_, rfl⟩
      obtain ⟨p1, hp1⟩ : ∃ n : Nat, n = s.at_ + 1 := ⟨_, rfl⟩
      obtain ⟨to2, hto2⟩ : ∃ n : Nat, n = s.at_ + 1 + t30 := ⟨_, rfl⟩
      have a4 : (q : Int).tmod 4 = (t4 : Int) := by rw [Int.tmod_eq_emod_of_nonneg (by omega)]; omega
      have a4' : (q : Int) % 4 = (t4 : Int) := by omega
      have a30 : (q : Int).tmod 30 = (t30 : Int) := by rw [Int.tmod_eq_emod_of_nonneg (by omega)]; omega
      have a30' : (q : Int) % 30 = (t30 : Int) := by omega
      have b1 : IntKind.i64.wrap ((s.id : Int) + 1) = (id2 : Int) := by rw [IntKind.wrap_i64]; omega
      have b2 : IntKind.i64.wrap ((s.at_ : Int) + 1) = (p1 : Int) := by rw [IntKind.wrap_i64]; omega
      have b3 : IntKind.i64.wrap (t30 : Int) = (t30 : Int) := by rw [IntKind.wrap_i64]; omega
      have b4 : IntKind.i64.wrap ((p1 : Int) + (t30 : Int)) = (to2 : Int) := by rw [IntKind.wrap_i64]; omega
      have b5 : IntKind.i64.wrap (t4 : Int) = (t4 : Int) := by rw [IntKind.wrap_i64]; omega
      have b6 : IntKind.u32.wrap (k : Int) = ((k % 4294967296 : Nat) : Int) := by rw [IntKind.wrap_u32]; omega
      rw [← ht4, ← ht30, ← hid2, ← hto2] at HNEXT HG2 HE
      clear hnx hr hq hrk ht4 ht30 hvb hib hab hid2 hp1 hto2
      generalize k % 4294967296 = ks at *
      go_upto_region 10 with fail
      have HOW := Lib.hid (HI.out.on (below_box wr (.cells #[.int .i64 1, .int .i64 (s.vw : Int), .int .i64 (id2 : Int), .int .i64 (t4 : Int), .int .i64 (s.at_ : Int), .int .i64 (to2 : Int), .int .u32 (ks : Int), .string ⟨#[]⟩] 25)))
      go_wp2_with (at_builtin; refine wpList_append_ents rfl _ _ rfl w.heap.size _ s.out.length 1 s.out [adE s.vw id2 t4 s.at_ to2 ks] rfl HOW.out.own _ _ rfl (row_ent _ HE.out wr _ _ _ _ _ _ _ _ rfl rfl) HLEN.out HOW.out.below.size ?_)
      intro v5 w5 hown hgrow
      have HX := Lib.hid (HI.out.add (below_box _ _) hown hgrow)
      clear hown hgrow HOW HE HLEN
      obtain ⟨A5, c5, rfl⟩ := HX.out.1
      have HI5 := Lib.hid (HX.out.2 ⟨s.out ++ [adE s.vw id2 t4 s.at_ to2 ks], s.th, 0, 0, 0⟩ rfl rfl)
      clear HX HI
      go_upto_region 11 with fail
      have HTH := Lib.hid ((HI5.out.on (below_box w5 (.cells #[.int .i64 (id2 : Int)] 3))))
      have hc0 : (w5.alloc (.cells #[.int .i64 (id2 : Int)] 3)).cell? ⟨w5.heap.size, 0, none⟩ = some (.int .i64 (id2 : Int)) := by simp
      have HC0 := Lib.hid hc0
      have HTL : Hid (s.th.length ≤ 1000) := Lib.hid (by have := HG.out.th.1; omega)
      clear hc0
      go_wp2_with (at_builtin; refine wpList_append_th rfl _ _ rfl w.heap.size A4 c4 s.th (id2 : Int) rfl HTH.out.th _ _ rfl HC0.out HTL.out HTH.out.below.size ?_)
      intro v6 w6 hown hgrow
      have HI6 : Hid (∃ A6 c6, v6 = .slice A6 (s.th.length + 1) c6 ∧ RWI w w6 (.slice A5 (s.out.length + 1) c5) A6 c6 ⟨s.out ++ [adE s.vw id2 t4 s.at_ to2 ks], s.th ++ [(id2 : Int)], s.vw, id2, to2⟩) := Lib.hid (by
        obtain ⟨g6, c6, e6⟩ := own_some2 hown (by omega)
        exact ⟨_, c6, e6, ⟨HTH.out.own.kept hgrow (typed_apart HTH.out.own HTH.out.th (by decide)), .inl (by rw [e6] at hown; rw [List.length_append]; exact hown), HTH.out.below.grown hgrow HTH.out.below.size (fun k hk => (HTH.out.th.typed _ k hk).2)⟩⟩)
      clear hown hgrow HTH HC0 HTL HI5
      obtain ⟨A6, c6, rfl, hri⟩ := HI6.out
      have HRI := Lib.hid hri
      clear HI6 hri
      go_wp2
      go_roundw
      case rel => exact ⟨i + 1, ⟨s.out ++ [adE s.vw id2 t4 s.at_ to2 ks], s.th ++ [(id2 : Int)], s.vw, id2, to2⟩, A5, c5, A6, c6, by simp, by simp, rfl, by go_num, by go_num, by go_num, by omega, by omega, HNEXT, HG2, by simpa using HRI⟩
      case measure => simp [intOf]; omega
    have g3 : (r : Int) > 3 := by omega
    by_cases hth : 0 < s.th.length
    case neg =>
      have g4 : ¬ ((s.th.length : Nat) : Int) > 0 := by omega
      have hno : ¬ (3 < r ∧ 0 < s.th.length) := fun h => hth h.2
      have hvb := HG.out.vw
      have hib := HG.out.id
      have hab := HG.out.at_
      have hnx : s.next k = ⟨s.out ++ [adE s.vw (s.id + 1) (q % 4) s.at_ (s.at_ + 1 + q % 30) (k % 4294967296)], s.th ++ [((s.id + 1 : Nat) : Int)], s.vw, s.id + 1, s.at_ + 1 + q % 30⟩ := by
        unfold RwS.next
        rw [if_neg (by omega), if_neg (by omega), if_neg (by omega), ← hq]
      rw [hnx] at HNEXT HG2
      have HE : Hid ((adE s.vw (s.id + 1) (q % 4) s.at_ (s.at_ + 1 + q % 30) (k % 4294967296)).ok) := Lib.hid (adE_may (by omega) (by omega) (by omega) (by omega) (by omega) (by omega)).2
      obtain ⟨t4, ht4⟩ : ∃ t4, t4 = q % 4 := ⟨_, rfl⟩
      obtain ⟨t30, ht30⟩ : ∃ t30, t30 = q % 30 := ⟨_, rfl⟩
      obtain ⟨id2, hid2⟩ : ∃ n : Nat, n = s.id + 1 := ⟨_, rfl⟩
      obtain ⟨p1, hp1⟩ : ∃ n : Nat, n = s.at_ + 1 := ⟨_, rfl⟩
      obtain ⟨to2, hto2⟩ : ∃ n : Nat, n = s.at_ + 1 + t30 := ⟨_, rfl⟩
      have a4 : (q : Int).tmod 4 = (t4 : Int) := by rw [Int.tmod_eq_emod_of_nonneg (by omega)]; omega
      have a4' : (q : Int) % 4 = (t4 : Int) := by omega
      have a30 : (q : Int).tmod 30 = (t30 : Int) := by rw [Int.tmod_eq_emod_of_nonneg (by omega)]; omega
      have a30' : (q : Int) % 30 = (t30 : Int) := by omega
      have b1 : IntKind.i64.wrap ((s.id : Int) + 1) = (id2 : Int) := by rw [IntKind.wrap_i64]; omega
      have b2 : IntKind.i64.wrap ((s.at_ : Int) + 1) = (p1 : Int) := by rw [IntKind.wrap_i64]; omega
      have b3 : IntKind.i64.wrap (t30 : Int) = (t30 : Int) := by rw [IntKind.wrap_i64]; omega
      have b4 : IntKind.i64.wrap ((p1 : Int) + (t30 : Int)) = (to2 : Int) := by rw [IntKind.wrap_i64]; omega
      have b5 : IntKind.i64.wrap (t4 : Int) = (t4 : Int) := by rw [IntKind.wrap_i64]; omega
      have b6 : IntKind.u32.wrap (k : Int) = ((k % 4294967296 : Nat) : Int) := by rw [IntKind.wrap_u32]; omega
      rw [← ht4, ← ht30, ← hid2, ← hto2] at HNEXT HG2 HE
      clear hnx hr hq hrk ht4 ht30 hvb hib hab hid2 hp1 hto2
      generalize k % 4294967296 = ks at *
      go_upto_region 10 with fail
      have HOW := Lib.hid (HI.out.on (below_box wr (.cells #[.int .i64 1, .int .i64 (s.vw : Int), .int .i64 (id2 : Int), .int .i64 (t4 : Int), .int .i64 (s.at_ : Int), .int .i64 (to2 : Int), .int .u32 (ks : Int), .string ⟨#[]⟩] 25)))
      go_wp2_with (at_builtin; refine wpList_append_ents rfl _ _ rfl w.heap.size _ s.out.length 1 s.out [adE s.vw id2 t4 s.at_ to2 ks] rfl HOW.out.own _ _ rfl (row_ent _ HE.out wr _ _ _ _ _ _ _ _ rfl rfl) HLEN.out HOW.out.below.size ?_)
      intro v5 w5 hown hgrow
      have HX := Lib.hid (HI.out.add (below_box _ _) hown hgrow)
      clear hown hgrow HOW HE HLEN
      obtain ⟨A5, c5, rfl⟩ := HX.out.1
      have HI5 := Lib.hid (HX.out.2 ⟨s.out ++ [adE s.vw id2 t4 s.at_ to2 ks], s.th, 0, 0, 0⟩ rfl rfl)
      clear HX HI
      go_upto_region 11 with fail
      have HTH := Lib.hid ((HI5.out.on (below_box w5 (.cells #[.int .i64 (id2 : Int)] 3))))
      have hc0 : (w5.alloc (.cells #[.int .i64 (id2 : Int)] 3)).cell? ⟨w5.heap.size, 0, none⟩ = some (.int .i64 (id2 : Int)) := by simp
      have HC0 := Lib.hid hc0
      have HTL : Hid (s.th.length ≤ 1000) := Lib.hid (by have := HG.out.th.1; omega)
      clear hc0
      go_wp2_with (at_builtin; refine wpList_append_th rfl _ _ rfl w.heap.size A4 c4 s.th (id2 : Int) rfl HTH.out.th _ _ rfl HC0.out HTL.out HTH.out.below.size ?_)
      intro v6 w6 hown hgrow
      have HI6 : Hid (∃ A6 c6, v6 = .slice A6 (s.th.length + 1) c6 ∧ RWI w w6 (.slice A5 (s.out.length + 1) c5) A6 c6 ⟨s.out ++ [adE s.vw id2 t4 s.at_ to2 ks], s.th ++ [(id2 : Int)], s.vw, id2, to2⟩) := Lib.hid (by
        obtain ⟨g6, c6, e6⟩ := own_some2 hown (by omega)
        exact ⟨_, c6, e6, ⟨HTH.out.own.kept hgrow (typed_apart HTH.out.own HTH.out.th (by decide)), .inl (by rw [e6] at hown; rw [List.length_append]; exact hown), HTH.out.below.grown hgrow HTH.out.below.size (fun k hk => (HTH.out.th.typed _ k hk).2)⟩⟩)
      clear hown hgrow HTH HC0 HTL HI5
      obtain ⟨A6, c6, rfl, hri⟩ := HI6.out
      have HRI := Lib.hid hri
      clear HI6 hri
      go_wp2
      go_roundw
      case rel => exact ⟨i + 1, ⟨s.out ++ [adE s.vw id2 t4 s.at_ to2 ks], s.th ++ [(id2 : Int)], s.vw, id2, to2⟩, A5, c5, A6, c6, by simp, by simp, rfl, by go_num, by go_num, by go_num, by omega, by omega, HNEXT, HG2, by simpa using HRI⟩
      case measure => simp [intOf]; omega
    have g4 : ((s.th.length : Nat) : Int) > 0 := by omega
    have hml : s.th.length ≤ 40 := by have := HG.out.th.1; omega
    obtain ⟨j, hj⟩ : ∃ j, j = q % s.th.length := ⟨_, rfl⟩
    have hjm : j < s.th.length := by rw [hj]; exact Nat.mod_lt _ hth
    obtain ⟨y, hy⟩ : ∃ y, s.th.getD j 0 = y := ⟨_, rfl⟩
    have hnx : s.next k = ⟨s.out ++ [drE s.vw y], s.th.take j ++ s.th.drop (j + 1), s.vw, s.id, s.at_⟩ := by
      unfold RwS.next
      rw [if_neg (by omega), if_neg (by omega), if_pos ⟨by omega, hth⟩, ← hq, ← hj, hy]
    rw [hnx] at HNEXT HG2
    have hyb := HG.out.th.2.2 y (by rw [← hy, List.getD_eq_getElem?_getD, List.getElem?_eq_getElem hjm]; exact List.getElem_mem hjm)
    have HE : Hid ((drE s.vw y).ok) := Lib.hid (drE_may (by have := HG.out.vw; omega) (by have := HG.out.id; omega)).2
    obtain ⟨gT, curT, hA, hgT, hhT, htk, hcells⟩ := HI.out.th.at_ hth
    subst hA
    have ct := hcells j hjm
    rw [hy] at ct
    have hth40 := hth
    have hjq : (q : Int) % ((s.th.length : Nat) : Int) = (j : Int) := by rw [hj]; omega
    obtain ⟨m, hm⟩ : ∃ m, m = s.th.length := ⟨_, rfl⟩
    have HM := Lib.hid hm
    rw [← hm] at g4 hml hjm hjq hth hth40 ⊢
    have u1 : IntKind.u64.wrap (m : Int) = (m : Int) := by rw [IntKind.wrap_u64]; omega
    have jm : (q : Int).tmod (m : Int) = (j : Int) := by rw [Int.tmod_eq_emod_of_nonneg (by omega)]; exact hjq
    have j1 : IntKind.i64.wrap (j : Int) = (j : Int) := by rw [IntKind.wrap_i64]; omega
    have j0 : (0 : Int) ≤ (j : Int) := by omega
    have jl : (j : Int) < (m : Int) := by omega
    have m0 : ¬ (m : Int) = 0 := by omega
    have HY := Lib.hid hy
    have HHT := Lib.hid hhT
    clear hnx hr hq hrk hj hy hyb hcells hhT htk hgT hm
    go_upto_region 20 with fail
    have HOW := Lib.hid (HI.out.on (below_box wr (.cells #[.int .i64 2, .int .i64 (s.vw : Int), .int .i64 y, .int .i64 0, .int .i64 0, .int .i64 0, .int .u32 0, .string ⟨#[]⟩] 25)))
    go_wp2_with (at_builtin; refine wpList_append_ents rfl _ _ rfl w.heap.size _ s.out.length 1 s.out [drE s.vw y] rfl HOW.out.own _ _ rfl (row_ent _ HE.out wr _ _ _ _ _ _ _ _ rfl rfl) HLEN.out HOW.out.below.size ?_)
    intro v5 w5 hown hgrow
    have HX := Lib.hid (HI.out.add (below_box _ _) hown hgrow)
    clear hown hgrow HOW HE HLEN ct HHT
    obtain ⟨A5, c5, rfl⟩ := HX.out.1
    have HI5 := Lib.hid (HX.out.2 ⟨s.out ++ [drE s.vw y], s.th, 0, 0, 0⟩ rfl rfl)
    clear HX HI
    go_upto_region 21 with fail
    obtain ⟨i0', hii, hz0, hz1, hz2⟩ := info_parts Tryd.info3
    obtain ⟨gT', curT, hA, hgT, hhT, htk, hcells⟩ := HI5.out.th.at_ (show 0 < s.th.length by rw [← HM.out]; exact hth)
    injection hA with hA
    injection hA with hA
    subst hA
    have hc4 := HI5.out.th.le
    simp only at hc4 hhT htk hcells
    have hwr : IntKind.i64.wrap ((j : Int) + 1) = (j : Int) + 1 := by rw [IntKind.wrap_i64]; omega
    have hp0 : (0 : Int) ≤ (j : Int) + 1 := by omega
    have hp1 : (j : Int) + 1 ≤ (m : Int) := by omega
    have hp2 : ((j : Int) + 1).toNat = j + 1 := by omega
    have hp3 : (j : Int) ≤ (c4 : Int) := by have := hc4.1; rw [← HM.out] at this; omega
    have HC4 : Hid (m ≤ c4 ∧ m ≤ maxLen) := Lib.hid (by rw [HM.out]; exact ⟨hc4.1, Nat.le_trans hc4.1 hc4.2⟩)
    have HTK : Hid ((intV (s.th.take j)).length = j * 1 ∧ (∀ b, some (⟨gT, 0, none⟩ : Addr) = some b → ∀ q u, (intV (s.th.take j))[q]? = some u → w5.drew.cell? (b.add q) = some u) ∧ (intV (s.th.drop (j + 1))).length = (m - (j + 1)) * 1 ∧ (∀ q u, (intV (s.th.drop (j + 1)))[q]? = some u → w5.drew.cell? ((⟨gT, j + 1, none⟩ : Addr).add q) = some u)) := Lib.hid (by
      have hrl := HM.out
      refine ⟨by rw [intV_length, List.length_take]; omega, ?_, by rw [intV_length, List.length_drop]; omega, ?_⟩
      · intro b hb q u hj
        injection hb with hb
        subst hb
        have hlt : q < (s.th.take j).length := by have := (List.getElem?_eq_some_iff.1 hj).1; rwa [intV_length] at this
        rw [intV_get hlt] at hj
        rw [List.length_take] at hlt
        rw [addr_add, Nat.zero_add, ← hj]
        have := hcells q (by omega)
        rw [List.getD_eq_getElem?_getD, List.getElem?_take_of_lt (by omega), ← List.getD_eq_getElem?_getD]
        exact this
      · intro q u hj
        have hlt : q < (s.th.drop (j + 1)).length := by have := (List.getElem?_eq_some_iff.1 hj).1; rwa [intV_length] at this
        rw [intV_get hlt] at hj
        rw [List.length_drop] at hlt
        rw [addr_add, ← hj]
        have := hcells (j + 1 + q) (by omega)
        rw [List.getD_eq_getElem?_getD, List.getElem?_drop, ← List.getD_eq_getElem?_getD]
        exact this)
    have HHC : Hid (w5.heap[gT]? = some (.cells curT 3 (0, 0)) ∧ curT.toList.take s.th.length = intV s.th ∧ w.heap.size ≤ gT) := Lib.hid ⟨hhT, htk, hgT⟩
    have HC4M : Hid (c4 ≤ maxLen) := Lib.hid hc4.2
    clear hhT htk hcells hgT hc4
    by_cases hgr : j + 1 < m
    case pos =>
      have hne : ¬ c4 = j + 1 := by have := HC4.out.1; omega
      go_region_law (refine step_append_grows rfl (.tmp 110) (.tmp 114) 46 rfl 3 i0' (.int .i64 0) 1 8 Tryd.underlying46 hii hz0 hz1 hz2 rfl (by decide) (some ⟨gT, 0, none⟩) j j (intV (s.th.take j)) (by simp [Act.eval, Act.put]) (fun e => by cases e) HTK.out.1 HTK.out.2.1 ⟨gT, j + 1, none⟩ (m - (j + 1)) (c4 - (j + 1)) (intV (s.th.drop (j + 1))) (by simp [Act.eval, Act.put]) HTK.out.2.2.1 HTK.out.2.2.2 (intV_one _) (by omega) (by have := HC4.out.2; omega) (by omega) ?_; intro v6 w6 hown hgrow)
      have HRI0 : Hid (∃ A6 c6, v6 = .slice A6 (j + (m - (j + 1))) c6 ∧ RWI w w6 (.slice A5 (s.out.length + 1) c5) A6 c6 ⟨s.out ++ [drE s.vw y], s.th.take j ++ s.th.drop (j + 1), s.vw, s.id, s.at_⟩) := Lib.hid (by
        obtain ⟨g6, c6, e6⟩ := own_some2 hown (by omega)
        have hlen : (s.th.take j ++ s.th.drop (j + 1)).length = j + (m - (j + 1)) := by rw [List.length_append, List.length_take, List.length_drop, ← HM.out]; omega
        have hb6 : w5.grownBy w6 none := ⟨hgrow.os, hgrow.tape, hgrow.output, hgrow.size, hgrow.block⟩
        refine ⟨_, c6, e6, ⟨HI5.out.own.kept hb6 (Classical.em _), .inl ?_, HI5.out.below.grown hb6 HI5.out.below.size (fun k h => by cases h)⟩⟩
        rw [e6] at hown
        have ho2 : w6.ownsRow w.heap.size 3 1 (.slice (some ⟨g6, 0, none⟩) (j + (m - (j + 1))) c6) (j + (m - (j + 1))) (intV (s.th.take j) ++ intV (s.th.drop (j + 1))) := by
          refine ⟨hown.1, ?_⟩
          rcases hown.2 with h | ⟨g, cap, cur, e1, e2, r⟩
          · exact .inl h
          · exact .inr ⟨g, cap, cur, e1, Nat.le_trans HI5.out.below.size e2, r⟩
        simp only [hlen, intV_append]
        exact ho2)
      clear hown hgrow HTK HI5 hwr hp0 hp1 hp2 hp3 hne
      obtain ⟨A6, c6, rfl, hri⟩ := HRI0.out
      have HRI := Lib.hid hri
      have hlen6 : (s.th.take j ++ s.th.drop (j + 1)).length = j + (m - (j + 1)) := by rw [List.length_append, List.length_take, List.length_drop, ← HM.out]; omega
      have HL6 := Lib.hid hlen6
      clear HRI0 hri hlen6
      go_wp2
      go_roundw
      case rel => exact ⟨i + 1, ⟨s.out ++ [drE s.vw y], s.th.take j ++ s.th.drop (j + 1), s.vw, s.id, s.at_⟩, A5, c5, A6, c6, by simp, by rw [HL6.out], rfl, rfl, rfl, by go_num, by omega, by omega, HNEXT, HG2, by simpa using HRI⟩
      case measure => simp [intOf]; omega
    case neg =>
      obtain rfl : m = j + 1 := by omega
      have HRI0 : Hid (RWI w w5.drew (.slice A5 (s.out.length + 1) c5) (some ⟨gT, 0, none⟩) j ⟨s.out ++ [drE s.vw y], s.th.take j ++ s.th.drop (j + 1), s.vw, s.id, s.at_⟩) := Lib.hid (by
        have hd : s.th.drop (j + 1) = [] := List.drop_of_length_le (by rw [← HM.out]; omega)
        have hlt : (s.th.take j).length = j := by rw [List.length_take, ← HM.out]; omega
        have h5 := HI5.out.on (below_drewN w5 1)
        refine ⟨h5.own, .inr ⟨?_, gT, curT, rfl, HHC.out.2.2, HHC.out.1, by have := HC4.out; omega, ?_⟩, h5.below⟩
        · simp only [hd, List.append_nil]; exact hlt.symm
        · simp only [hd, List.append_nil]
          rw [hlt]
          have := HHC.out.2.1
          rw [← HM.out] at this
          have h2 := congrArg (List.take j) this
          rw [List.take_take, Nat.min_eq_left (by omega)] at h2
          rw [h2]
          unfold intV
          rw [List.map_take])
      have HK2 : Hid (w5.drew.setCells gT (0 + j * 1) [] = w5.drew) := Lib.hid rfl
      have hlen6 : (s.th.take j ++ s.th.drop (j + 1)).length = j := by rw [List.length_append, List.length_take, List.length_drop, ← HM.out]; omega
      have HL6 := Lib.hid hlen6
      have HRI := HRI0
      clear hlen6
      by_cases hce : c4 = j + 1
      case pos =>
        obtain rfl : c4 = j + 1 := hce
        have hp4 : (j : Int) ≤ (j : Int) + 1 := by omega
        go_region_law (refine step_append_room rfl (.tmp 110) (.tmp 114) 46 rfl 3 i0' 1 Tryd.underlying46 hii hz1 gT 0 j j (by simp [Act.eval, Act.put]) ⟨gT, 0, none⟩ 0 0 [] (by simp [Act.eval, Act.put]) rfl (fun j u h => by simp at h) (by simp) (by omega) (fun j hj => by simp at hj) ?_; rw [HK2.out])
        clear hwr hp0 hp1 hp2 hp3 HTK HK2
        go_wp2
        go_roundw
        case rel => exact ⟨i + 1, ⟨s.out ++ [drE s.vw y], s.th.take j ++ s.th.drop (j + 1), s.vw, s.id, s.at_⟩, A5, c5, some ⟨gT, 0, none⟩, j, by simp, by rw [HL6.out], rfl, rfl, rfl, by go_num, by omega, by omega, HNEXT, HG2, by simpa using HRI⟩
        case measure => simp [intOf]; omega
      case neg =>
        go_region_law (refine step_append_room rfl (.tmp 110) (.tmp 114) 46 rfl 3 i0' 1 Tryd.underlying46 hii hz1 gT 0 j j (by simp [Act.eval, Act.put]) ⟨gT, j + 1, none⟩ 0 (c4 - (j + 1)) [] (by simp [Act.eval, Act.put]) rfl (fun j u h => by simp at h) (by simp) (by omega) (fun j hj => by simp at hj) ?_; rw [HK2.out])
        clear hwr hp0 hp1 hp2 hp3 HTK HK2
        go_wp2
        go_roundw
        case rel => exact ⟨i + 1, ⟨s.out ++ [drE s.vw y], s.th.take j ++ s.th.drop (j + 1), s.vw, s.id, s.at_⟩, A5, c5, some ⟨gT, 0, none⟩, j, by simp, by rw [HL6.out], rfl, rfl, rfl, by go_num, by omega, by omega, HNEXT, HG2, by simpa using HRI⟩
        case measure => simp [intOf]; omega
end Go.Proofs.YtdpoahjgdndnhaaDoor
