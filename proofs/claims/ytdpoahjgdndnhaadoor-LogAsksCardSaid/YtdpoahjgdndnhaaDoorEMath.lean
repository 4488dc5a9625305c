/-
  Plain: entries of a manifest: which may be, their bytes, what all come to. No program in it.
-/
import Derived.Test.YtdpoahjgdndnhaaDoorPMath
import Derived.Test.YtdpoahjgdndnhaaDoorVMath
namespace Go.Proofs.YtdpoahjgdndnhaaDoor

/-- An entry: its kind, view, Id, tier, from, until, sum, text. -/
structure Ent where
  kd : Int
  vw : Int
  id : Int
  tr : Int
  fr : Int
  tl : Int
  sm : Int
  tx : List UInt8
deriving DecidableEq

def Ent.zero : Ent := ⟨0, 0, 0, 0, 0, 0, 0, []⟩
def Ent.ok (e : Ent) : Prop := In64 e.kd ∧ In64 e.vw ∧ In64 e.id ∧ In64 e.tr ∧ In64 e.fr ∧ In64 e.tl ∧ (0 ≤ e.sm ∧ e.sm ≤ 4294967295) ∧ e.tx.length < 4611686018427387900
instance (e : Ent) : Decidable e.ok := by unfold Ent.ok; infer_instance
def idOk (i : Int) : Prop := 1 ≤ i ∧ i ≤ 1073741824
instance (i : Int) : Decidable (idOk i) := by unfold idOk; infer_instance
def textOk (l : List UInt8) : Prop := l.length ≤ 300 ∧ (parse l).2.1 = 0
instance (l : List UInt8) : Decidable (textOk l) := by unfold textOk; infer_instance

/-- Those parts alone that its kind has. -/
def Ent.own (e : Ent) : Ent :=
  if e.kd = 1 then ⟨1, e.vw, e.id, e.tr, e.fr, e.tl, e.sm, []⟩
  else if e.kd = 2 then ⟨2, e.vw, e.id, 0, 0, 0, 0, []⟩
  else if e.kd = 4 then ⟨4, e.vw, 0, 0, 0, 0, 0, e.tx⟩
  else ⟨e.kd, e.vw, 0, 0, 0, 0, 0, []⟩
/-- What is asked of the parts of its kind. -/
def Ent.says (e : Ent) : Prop :=
  if e.kd = 1 then idOk e.id ∧ (0 ≤ e.tr ∧ e.tr < 4) ∧ 0 ≤ e.fr ∧ e.fr < e.tl ∧ e.tl ≤ 1099511627776
  else if e.kd = 2 then idOk e.id
  else if e.kd = 3 then 0 < e.vw
  else if e.kd = 4 then textOk e.tx
  else False
instance (e : Ent) : Decidable e.says := by unfold Ent.says; infer_instance
def Ent.may (e : Ent) : Prop := (0 ≤ e.vw ∧ e.vw ≤ 1073741824) ∧ e = e.own ∧ e.says
instance (e : Ent) : Decidable e.may := by unfold Ent.may; infer_instance

theorem Ent.own_ok {e : Ent} (h : e.ok) : e.own.ok := by
  obtain ⟨h1, h2, h3, h4, h5, h6, h7, h8⟩ := h
  unfold Ent.own Ent.ok In64
  unfold In64 at h1 h2 h3 h4 h5 h6
  (repeat' split) <;> simp only [List.length_nil] <;> omega

/-- The numbers that stand behind the kind. -/
def Ent.nums (e : Ent) : List Nat :=
  if e.kd = 1 then [e.vw.toNat, e.id.toNat, e.tr.toNat, e.fr.toNat, e.tl.toNat, e.sm.toNat]
  else if e.kd = 2 then [e.vw.toNat, e.id.toNat]
  else if e.kd = 4 then [e.vw.toNat, e.tx.length]
  else [e.vw.toNat]
def numsB (l : List Nat) : List Nat := l.flatMap enc
def textB (l : List UInt8) : List Nat := l.map UInt8.toNat
/-- An entry's bytes. -/
def Ent.bytes (e : Ent) : List Nat := e.kd.toNat :: (numsB e.nums ++ textB (if e.kd = 4 then e.tx else []))
def Ent.put (e : Ent) : List Nat × Int := if e.may then (e.bytes, 0) else ([], 1)

/-- A segment as a manifest tells of it. -/
structure Inf where
  id : Int
  tr : Int
  fr : Int
  tl : Int
  sm : Int
deriving DecidableEq
def Ent.inf (e : Ent) : Inf := ⟨e.id, e.tr, e.fr, e.tl, e.sm⟩
/-- A segment in its place. -/
def insI (x : Inf) : List Inf → List Inf
  | [] => [x]
  | y :: r => if y.id < x.id then y :: insI x r else x :: y :: r

/-- What entries come to, one behind the other: what is there, which Ids were there ever, the rule, the view, the last entry's view. -/
structure Man where
  th : List Inf
  ev : List Int
  ru : Pol
  vw : Int
  la : Int
def Man.zero : Man := ⟨[], [], Pol.dflt, 0, 0⟩
def Man.has (m : Man) (i : Int) : Prop := i ∈ m.th.map Inf.id
instance (m : Man) (i : Int) : Decidable (m.has i) := by unfold Man.has; infer_instance
/-- Why an entry may not come next; 0: it may. -/
def Man.fault (m : Man) (e : Ent) : Int :=
  if ¬ e.may then 1 else if e.kd = 1 ∧ e.id ∈ m.ev then 7 else if e.kd = 2 ∧ ¬ m.has e.id then 9 else if e.vw < m.la then 12 else 0
def Man.take (m : Man) (e : Ent) : Man :=
  if e.kd = 1 then { m with th := insI e.inf m.th, ev := e.id :: m.ev, la := e.vw }
  else if e.kd = 2 then { m with th := m.th.filter (fun x => x.id ≠ e.id), la := e.vw }
  else if e.kd = 3 then { m with vw := e.vw, la := e.vw }
  else if e.kd = 4 then { m with ru := (parse e.tx).1, la := e.vw }
  else { m with la := e.vw }
def foldOn : Man → List Ent → Man × Int
  | m, [] => (m, 0)
  | m, e :: r => if m.fault e = 0 then foldOn (m.take e) r else (m, m.fault e)
/-- What is there behind all: segments, the rule, the view, the code. -/
def fold (l : List Ent) : List Inf × Pol × Int × Int :=
  if (foldOn Man.zero l).2 = 0 then ((foldOn Man.zero l).1.th, (foldOn Man.zero l).1.ru, (foldOn Man.zero l).1.vw, 0) else ([], Pol.zero, 0, (foldOn Man.zero l).2)

/-- What holds of every manifest that entries come to. -/
structure Man.Good (m : Man) (n : Nat) : Prop where
  asc : (m.th.map Inf.id).Pairwise (· < ·)
  sub : ∀ i, m.has i → i ∈ m.ev
  ids : ∀ i ∈ m.ev, idOk i
  inf : ∀ x ∈ m.th, (0 ≤ x.tr ∧ x.tr < 4) ∧ (0 ≤ x.fr ∧ x.fr < x.tl ∧ x.tl ≤ 1099511627776) ∧ 0 ≤ x.sm ∧ x.sm ≤ 4294967295
  ru : m.ru.ok
  vw : 0 ≤ m.vw ∧ m.vw ≤ 1073741824
  la : 0 ≤ m.la ∧ m.la ≤ 1073741824
  len : m.th.length ≤ n ∧ m.ev.length ≤ n

theorem mem_insI {x y : Inf} : ∀ {l : List Inf}, y ∈ insI x l ↔ y = x ∨ y ∈ l
  | [] => by simp [insI]
  | z :: r => by
    unfold insI
    split
    · rw [List.mem_cons, mem_insI (l := r), List.mem_cons]
      constructor
      · rintro (h | h | h)
        · exact .inr (.inl h)
        · exact .inl h
        · exact .inr (.inr h)
      · rintro (h | h | h)
        · exact .inr (.inl h)
        · exact .inl h
        · exact .inr (.inr h)
    · simp
theorem insI_length (x : Inf) : ∀ l : List Inf, (insI x l).length = l.length + 1
  | [] => rfl
  | y :: r => by
    unfold insI
    split
    · simp [insI_length x r]
    · simp
theorem insI_asc {x : Inf} : ∀ {l : List Inf}, (l.map Inf.id).Pairwise (· < ·) → (∀ y ∈ l, y.id ≠ x.id) → ((insI x l).map Inf.id).Pairwise (· < ·)
  | [], _, _ => by simp [insI]
  | y :: r, h, hn => by
    rw [List.map_cons, List.pairwise_cons] at h
    unfold insI
    split
    · next hlt =>
      rw [List.map_cons, List.pairwise_cons]
      refine ⟨?_, insI_asc h.2 (fun z hz => hn z (List.mem_cons_of_mem _ hz))⟩
      intro a ha
      obtain ⟨z, hz, rfl⟩ := List.mem_map.1 ha
      rcases mem_insI.1 hz with rfl | hz
      · exact hlt
      · exact h.1 _ (List.mem_map.2 ⟨z, hz, rfl⟩)
    · next hge =>
      have hy := hn y (List.mem_cons_self ..)
      rw [List.map_cons, List.map_cons, List.pairwise_cons, List.pairwise_cons]
      refine ⟨?_, h⟩
      intro a ha
      rcases List.mem_cons.1 ha with rfl | ha
      · omega
      · have := h.1 a ha
        omega

theorem Pol.dflt_ok : Pol.dflt.ok := by decide
theorem parseOn_ok : ∀ (l : List (List UInt8)) (n : Nat) (p : Pol) (s : List Bool), p.ok → (parseOn n p s l).1.ok
  | [], n, p, s, hp => by
    unfold parseOn
    split
    · exact hp
    · exact (by decide : Pol.zero.ok)
  | x :: r, n, p, s, hp => by
    unfold parseOn
    split
    · exact parseOn_ok r _ _ _ hp
    · split
      · refine parseOn_ok r _ _ _ ?_
        have h := readR_fits (words x)
        have hk := readR_lt (words x)
        generalize (readR (words x)).1 = k at *
        generalize (readR (words x)).2.1 = z at *
        obtain ⟨h1, h2, h3, h4, h5, h6⟩ := hp
        unfold In64 at h1 h2 h3 h4 h5 h6
        match k, hk with
        | 0, _ | 1, _ | 2, _ | 3, _ | 4, _ | 5, _ => unfold Pol.put Pol.ok In64; simp only; omega
      · exact (by decide : Pol.zero.ok)
theorem parse_ok (l : List UInt8) : (parse l).1.ok := parseOn_ok _ _ _ _ Pol.dflt_ok

theorem Man.Good.zero : Man.zero.Good 0 := by
  refine ⟨by simp [Man.zero], ?_, ?_, ?_, Pol.dflt_ok, by decide, by decide, by decide⟩
  · intro i hi; simp [Man.zero, Man.has] at hi
  · intro i hi; simp [Man.zero] at hi
  · intro i hi; simp [Man.zero] at hi
theorem Man.fault_zero {m : Man} {e : Ent} (h : m.fault e = 0) : e.may ∧ (e.kd = 1 → e.id ∉ m.ev) ∧ (e.kd = 2 → m.has e.id) ∧ m.la ≤ e.vw := by
  unfold Man.fault at h
  split at h
  · omega
  · next hm =>
    split at h
    · omega
    · next h1 =>
      split at h
      · omega
      · next h2 =>
        split at h
        · omega
        · next h3 =>
          refine ⟨Decidable.not_not.1 hm, fun hk hi => h1 ⟨hk, hi⟩, fun hk => ?_, by omega⟩
          exact Decidable.not_not.1 (fun hn => h2 ⟨hk, hn⟩)
theorem Man.Good.take {m : Man} {e : Ent} {n : Nat} (hg : m.Good n) (he : e.ok) (h : m.fault e = 0) : (m.take e).Good (n + 1) := by
  obtain ⟨hm, h1, h2, h3⟩ := Man.fault_zero h
  obtain ⟨hv, ho, hs⟩ := hm
  have hl1 := hg.len.1
  have hl2 := hg.len.2
  unfold Man.take
  split
  · next hk =>
    have hs' := hs
    unfold Ent.says at hs'
    rw [if_pos hk] at hs'
    have hsm := he.2.2.2.2.2.2.1
    refine ⟨insI_asc hg.asc ?_, ?_, ?_, ?_, hg.ru, hg.vw, hv, ⟨?_, ?_⟩⟩
    · intro y hy e2
      exact h1 hk (by rw [← show y.id = e.id from e2]; exact hg.sub _ (List.mem_map.2 ⟨y, hy, rfl⟩))
    · intro i hi
      unfold Man.has at hi
      obtain ⟨z, hz, rfl⟩ := List.mem_map.1 hi
      rcases mem_insI.1 hz with rfl | hz
      · exact List.mem_cons_self ..
      · exact List.mem_cons_of_mem _ (hg.sub _ (List.mem_map.2 ⟨z, hz, rfl⟩))
    · intro i hi
      rcases List.mem_cons.1 hi with rfl | hi
      · exact hs'.1
      · exact hg.ids i hi
    · intro x hx
      rcases mem_insI.1 hx with rfl | hx
      · exact ⟨hs'.2.1, hs'.2.2, hsm⟩
      · exact hg.inf x hx
    · simp only [insI_length]; omega
    · simp only [List.length_cons]; omega
  · split
    · refine ⟨?_, ?_, hg.ids, ?_, hg.ru, hg.vw, hv, ⟨?_, by simp only; omega⟩⟩
      · exact hg.asc.sublist (List.Sublist.map _ List.filter_sublist)
      · intro i hi
        unfold Man.has at hi
        obtain ⟨z, hz, rfl⟩ := List.mem_map.1 hi
        exact hg.sub _ (List.mem_map.2 ⟨z, (List.mem_filter.1 hz).1, rfl⟩)
      · intro x hx
        exact hg.inf x (List.mem_filter.1 hx).1
      · have := List.length_filter_le (fun x : Inf => decide (x.id ≠ e.id)) m.th
        simp only
        omega
    · split
      · exact ⟨hg.asc, hg.sub, hg.ids, hg.inf, hg.ru, hv, hv, ⟨by simp only; omega, by simp only; omega⟩⟩
      · split
        · exact ⟨hg.asc, hg.sub, hg.ids, hg.inf, parse_ok _, hg.vw, hv, ⟨by simp only; omega, by simp only; omega⟩⟩
        · exact ⟨hg.asc, hg.sub, hg.ids, hg.inf, hg.ru, hg.vw, hv, ⟨by simp only; omega, by simp only; omega⟩⟩
end Go.Proofs.YtdpoahjgdndnhaaDoor
