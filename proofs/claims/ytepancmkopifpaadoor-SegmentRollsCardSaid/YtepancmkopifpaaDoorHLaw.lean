/-
  Plain: heads: which may be, a sample put, a seal, when one is due. No program in it.
  Plain: heads that samples were put into, in any order; heads that are sealed now and then; full ones. No program in it.
-/
import Derived.Test.YtepancmkopifpaaDoorGRoll
namespace Go.Proofs.YtepancmkopifpaaDoor
set_option linter.unusedVariables false

/-- A head: where it is sealed, its samples. -/
structure Hd where
  sl : Int
  l : List (Int × Int)
def Hd.none : Hd := ⟨0, []⟩
def Hd.may (h : Hd) : Prop := 0 ≤ h.sl ∧ h.sl ≤ 1099511627776 ∧ Rise h.l ∧ h.l.length ≤ 64 ∧ ∀ s ∈ h.l, h.sl ≤ s.1 ∧ s.1 < 1099511627776
instance (h : Hd) : Decidable h.may := by unfold Hd.may; infer_instance
def inT (t : Int) : Prop := 0 ≤ t ∧ t < 1099511627776
instance (t : Int) : Decidable (inT t) := by unfold inT; infer_instance
/-- A sample in its place. -/
def ins (s : Int × Int) (l : List (Int × Int)) : List (Int × Int) := l.take (cnt s.1 l) ++ [s] ++ l.drop (cnt s.1 l)
/-- Is there a sample of that time? -/
def has (t : Int) (l : List (Int × Int)) : Prop := ∃ s ∈ l, s.1 = t
instance (t : Int) (l : List (Int × Int)) : Decidable (has t l) := by unfold has; infer_instance
/-- What Put says. -/
def putH (h : Hd) (s : Int × Int) : Hd × Int :=
  if ¬ h.may ∨ ¬ inT s.1 then (h, 1) else
  if s.1 < h.sl then (h, 6) else
  if has s.1 h.l then (h, 7) else
  if 64 ≤ h.l.length then (h, 8) else (⟨h.sl, ins s h.l⟩, 0)
/-- The last sample's time. -/
def lastT (l : List (Int × Int)) : Int := (l.getD (l.length - 1) (0, 0)).1
/-- What Seal says: the head, the samples, from, to, the code. -/
def sealH (h : Hd) : Hd × List (Int × Int) × Int × Int × Int :=
  if ¬ h.may then (h, [], 0, 0, 1) else
  if h.l = [] then (h, [], 0, 0, 9) else (⟨lastT h.l + 1, []⟩, h.l, h.sl, lastT h.l + 1, 0)

theorem rise_pair : ∀ (l : List (Int × Int)), Rise l ↔ (∀ s ∈ l, Ag.begin_ s.1) ∧ l.Pairwise (fun a b => a.1 < b.1)
  | [] => ⟨fun _ => ⟨fun s hs => by simp at hs, List.Pairwise.nil⟩, fun _ i hi => by simp at hi⟩
  | x :: r => by
    have ih := rise_pair r
    constructor
    · intro h
      obtain ⟨h1, h2⟩ := ih.1 (rise_tail h)
      refine ⟨fun s hs => ?_, List.Pairwise.cons (fun y hy => (rise_lt h y hy).1) h2⟩
      rw [List.mem_cons] at hs
      rcases hs with rfl | hs
      · exact rise_head h
      · exact h1 s hs
    · rintro ⟨h1, h2⟩ i hi
      have hp := List.pairwise_iff_getElem.1 h2
      have hg : ∀ j (hj : j < (x :: r).length), (x :: r).getD j (0, 0) = (x :: r)[j] := fun j hj => by rw [List.getD_eq_getElem?_getD, List.getElem?_eq_getElem hj]; rfl
      refine ⟨?_, fun h0 => ?_⟩
      · unfold tAt
        rw [hg i hi]
        exact h1 _ (List.getElem_mem _)
      · unfold tAt
        rw [hg i hi, hg (i - 1) (by omega)]
        exact hp (i - 1) i (by omega) hi (by omega)
theorem mem_ins {s x : Int × Int} {l : List (Int × Int)} : x ∈ ins s l ↔ x = s ∨ x ∈ l := by
  unfold ins
  have e := List.take_append_drop (cnt s.1 l) l
  constructor
  · intro h
    simp only [List.mem_append, List.mem_singleton] at h
    rcases h with (h | h) | h
    · exact .inr (List.mem_of_mem_take h)
    · exact .inl h
    · exact .inr (List.mem_of_mem_drop h)
  · intro h
    simp only [List.mem_append, List.mem_singleton]
    rcases h with h | h
    · exact .inl (.inr h)
    · rw [← e, List.mem_append] at h
      rcases h with h | h
      · exact .inl (.inl h)
      · exact .inr h
theorem ins_len (s : Int × Int) (l : List (Int × Int)) : (ins s l).length = l.length + 1 := by
  unfold ins
  have := cnt_le s.1 l
  simp only [List.length_append, List.length_take, List.length_drop, List.length_singleton]
  omega
theorem drop_ge {e : Int} {l : List (Int × Int)} (h : l.Pairwise (fun a b => a.1 < b.1)) : ∀ x ∈ l.drop (cnt e l), ¬ x.1 < e := by
  intro x hx
  rcases hd : l.drop (cnt e l) with _ | ⟨y, r⟩
  · rw [hd] at hx; simp at hx
  · have h1 := cnt_drop hd
    have h2 : (l.drop (cnt e l)).Pairwise (fun a b => a.1 < b.1) := h.sublist (List.drop_sublist _ _)
    rw [hd] at hx h2
    rw [List.mem_cons] at hx
    rcases hx with rfl | hx
    · exact h1
    · have := (List.pairwise_cons.1 h2).1 x hx
      omega
theorem ins_pair {s : Int × Int} {l : List (Int × Int)} (h : l.Pairwise (fun a b => a.1 < b.1)) (hn : ¬ has s.1 l) : (ins s l).Pairwise (fun a b => a.1 < b.1) := by
  unfold ins
  have h1 : (l.take (cnt s.1 l)).Pairwise (fun a b => a.1 < b.1) := h.sublist (List.take_sublist _ _)
  have h2 : (l.drop (cnt s.1 l)).Pairwise (fun a b => a.1 < b.1) := h.sublist (List.drop_sublist _ _)
  have h3 : ∀ x ∈ l.take (cnt s.1 l), x.1 < s.1 := cnt_take
  have h4 : ∀ x ∈ l.drop (cnt s.1 l), s.1 < x.1 := fun x hx => by
    have h5 := drop_ge (e := s.1) h x hx
    have h6 : x.1 ≠ s.1 := fun e => hn ⟨x, List.mem_of_mem_drop hx, e⟩
    omega
  refine List.pairwise_append.2 ⟨List.pairwise_append.2 ⟨h1, by simp, fun a ha b hb => ?_⟩, h2, fun a ha b hb => ?_⟩
  · rw [List.mem_singleton] at hb
    subst hb
    exact h3 a ha
  · rw [List.mem_append, List.mem_singleton] at ha
    rcases ha with ha | rfl
    · have := h3 a ha
      have := h4 b hb
      omega
    · exact h4 b hb
theorem pair_uniq : ∀ {a b : List (Int × Int)}, a.Pairwise (fun x y => x.1 < y.1) → b.Pairwise (fun x y => x.1 < y.1) → (∀ x, x ∈ a ↔ x ∈ b) → a = b
  | [], [], _, _, _ => rfl
  | [], y :: s, _, _, h => by have := (h y).2 (by simp); simp at this
  | x :: r, [], _, _, h => by have := (h x).1 (by simp); simp at this
  | x :: r, y :: s, ha, hb, h => by
    obtain ⟨a1, a2⟩ := List.pairwise_cons.1 ha
    obtain ⟨b1, b2⟩ := List.pairwise_cons.1 hb
    have hxy : x = y := by
      have h1 := (h x).1 (by simp)
      have h2 := (h y).2 (by simp)
      rw [List.mem_cons] at h1 h2
      rcases h1 with h1 | h1
      · exact h1
      · rcases h2 with h2 | h2
        · exact h2.symm
        · have := a1 y h2
          have := b1 x h1
          omega
    subst hxy
    congr 1
    refine pair_uniq a2 b2 (fun z => ?_)
    constructor
    · intro hz
      have h1 := (h z).1 (by simp [hz])
      rw [List.mem_cons] at h1
      rcases h1 with rfl | h1
      · have := a1 z hz; omega
      · exact h1
    · intro hz
      have h1 := (h z).2 (by simp [hz])
      rw [List.mem_cons] at h1
      rcases h1 with rfl | h1
      · have := b1 z hz; omega
      · exact h1
theorem none_may : Hd.none.may := ⟨by decide, by decide, fun i hi => by simp [Hd.none] at hi, by decide, fun s hs => by simp [Hd.none] at hs⟩
/-- What a sample that is taken makes of a head. -/
theorem put_may {h : Hd} {s : Int × Int} (hm : h.may) : (putH h s).1.may := by
  unfold putH
  split
  · exact hm
  next h1 =>
  split
  · exact hm
  next h2 =>
  split
  · exact hm
  next h3 =>
  split
  · exact hm
  next h4 =>
  obtain ⟨m1, m2, m3, m4, m5⟩ := hm
  have hs : inT s.1 := by
    by_cases hi : inT s.1
    · exact hi
    · exact absurd (.inr hi) h1
  unfold inT at hs
  refine ⟨m1, m2, (rise_pair _).2 ⟨fun x hx => ?_, ins_pair ((rise_pair _).1 m3).2 h3⟩, by rw [ins_len]; omega, fun x hx => ?_⟩
  · rcases mem_ins.1 hx with rfl | hx
    · unfold Ag.begin_; omega
    · exact ((rise_pair _).1 m3).1 x hx
  · rcases mem_ins.1 hx with rfl | hx
    · exact ⟨by show h.sl ≤ _; omega, by omega⟩
    · exact m5 x hx
theorem seal_may {h : Hd} (hm : h.may) : (sealH h).1.may := by
  unfold sealH
  rw [if_neg (by simpa using hm)]
  split
  · exact hm
  · next hne =>
    have hl : 0 < h.l.length := List.length_pos_iff.2 hne
    have hx := hm.2.2.2.2 (h.l.getD (h.l.length - 1) (0, 0)) (by
      rw [List.getD_eq_getElem?_getD, List.getElem?_eq_getElem (by omega)]
      exact List.getElem_mem _)
    have h0 := hm.1
    refine ⟨by simp only [lastT]; omega, by simp only [lastT]; omega, fun i hi => by simp at hi, by simp, fun s hs => by simp at hs⟩
end Go.Proofs.YtepancmkopifpaaDoor
namespace Go.Proofs.YtepancmkopifpaaDoor
set_option linter.unusedVariables false

/-- What Put says of a head that may be, and a time that may be. -/
theorem put_cases {h : Hd} {s : Int × Int} (hm : h.may) (ht : inT s.1) :
    (s.1 < h.sl ∧ putH h s = (h, 6)) ∨ (h.sl ≤ s.1 ∧ has s.1 h.l ∧ putH h s = (h, 7)) ∨ (h.sl ≤ s.1 ∧ ¬ has s.1 h.l ∧ 64 ≤ h.l.length ∧ putH h s = (h, 8)) ∨
    (h.sl ≤ s.1 ∧ ¬ has s.1 h.l ∧ h.l.length < 64 ∧ putH h s = (⟨h.sl, ins s h.l⟩, 0)) := by
  unfold putH
  rw [if_neg (show ¬ (¬ h.may ∨ ¬ inT s.1) from fun e => e.elim (fun e => e hm) (fun e => e ht))]
  by_cases h1 : s.1 < h.sl
  · exact .inl ⟨h1, if_pos h1⟩
  · rw [if_neg h1]
    by_cases h2 : has s.1 h.l
    · exact .inr (.inl ⟨by omega, h2, if_pos h2⟩)
    · rw [if_neg h2]
      by_cases h3 : 64 ≤ h.l.length
      · exact .inr (.inr (.inl ⟨by omega, h2, h3, if_pos h3⟩))
      · exact .inr (.inr (.inr ⟨by omega, h2, by omega, if_neg h3⟩))
/-- A head that these samples made, each with the value that goes with its time. -/
structure Made (f : Int → Int) (S : List (Int × Int)) (h : Hd) : Prop where
  may : h.may
  sl : h.sl = 0
  mem : ∀ x, x ∈ h.l ↔ x ∈ S
  val : ∀ x ∈ S, x.2 = f x.1
  len : h.l.length ≤ S.length
theorem Made.none (f : Int → Int) : Made f [] Hd.none := ⟨none_may, rfl, fun x => by simp [Hd.none], fun x hx => by simp at hx, by simp [Hd.none]⟩
theorem Made.put {f : Int → Int} {S : List (Int × Int)} {h : Hd} (hm : Made f S h) {t : Int} (ht : inT t) (hS : S.length < 64) : Made f (S ++ [(t, f t)]) (putH h (t, f t)).1 := by
  have hmay := put_may (s := (t, f t)) hm.may
  have hl := hm.len
  have hval : ∀ x ∈ S ++ [(t, f t)], x.2 = f x.1 := fun x hx => by
    rw [List.mem_append, List.mem_singleton] at hx
    rcases hx with hx | rfl
    · exact hm.val x hx
    · rfl
  rcases put_cases (s := (t, f t)) hm.may ht with ⟨h1, e⟩ | ⟨h1, h2, e⟩ | ⟨h1, h2, h3, e⟩ | ⟨h1, h2, h3, e⟩
  · have := hm.sl
    unfold inT at ht
    simp only at h1
    omega
  · rw [e] at hmay ⊢
    refine ⟨hmay, hm.sl, fun x => ?_, hval, by rw [List.length_append]; simp only; omega⟩
    simp only [List.mem_append, List.mem_singleton]
    rw [hm.mem x]
    constructor
    · exact .inl
    · rintro (hx | rfl)
      · exact hx
      · obtain ⟨y, hy, e2⟩ := h2
        have hy2 := (hm.mem y).1 hy
        have hv := hm.val y hy2
        have : y = (t, f t) := by
          obtain ⟨y1, y2⟩ := y
          simp only at e2 hv
          rw [hv, e2]
        rw [← this]
        exact hy2
  · omega
  · rw [e] at hmay ⊢
    refine ⟨hmay, hm.sl, fun x => ?_, hval, by simp only [ins_len, List.length_append, List.length_singleton]; omega⟩
    simp only [List.mem_append, List.mem_singleton]
    rw [mem_ins, hm.mem x]
    exact Or.comm
theorem Made.same {f : Int → Int} {S S' : List (Int × Int)} {a b : Hd} (ha : Made f S a) (hb : Made f S' b) (h : ∀ x, x ∈ S ↔ x ∈ S') : a = b := by
  have e : a.l = b.l := pair_uniq ((rise_pair _).1 ha.may.2.2.1).2 ((rise_pair _).1 hb.may.2.2.1).2 (fun x => by rw [ha.mem, hb.mem, h])
  have e2 : a.sl = b.sl := by rw [ha.sl, hb.sl]
  obtain ⟨x, y⟩ := a
  obtain ⟨u, v⟩ := b
  simp only at e e2
  rw [e, e2]

/-- A head, and what came out of it. -/
structure Played (h : Hd) (out : List (Int × Int)) (n : Nat) : Prop where
  may : h.may
  pair : out.Pairwise (fun a b => a.1 < b.1)
  below : ∀ x ∈ out, x.1 < h.sl
  count : n = out.length + h.l.length
theorem Played.none : Played Hd.none [] 0 := ⟨none_may, List.Pairwise.nil, fun x hx => by simp at hx, rfl⟩
theorem Played.put {h : Hd} {out : List (Int × Int)} {n : Nat} (hp : Played h out n) (s : Int × Int) : Played (putH h s).1 out (if (putH h s).2 = 0 then n + 1 else n) := by
  have hmay := put_may (s := s) hp.may
  have hc := hp.count
  by_cases ht : inT s.1
  · rcases put_cases hp.may ht with ⟨h1, e⟩ | ⟨h1, h2, e⟩ | ⟨h1, h2, h3, e⟩ | ⟨h1, h2, h3, e⟩
    · rw [e]
      exact hp
    · rw [e]
      exact hp
    · rw [e]
      exact hp
    · rw [e] at hmay ⊢
      refine ⟨hmay, hp.pair, hp.below, ?_⟩
      simp only [if_true, ins_len]
      omega
  · have e : putH h s = (h, 1) := by unfold putH; rw [if_pos (.inr ht)]
    rw [e]
    exact hp
theorem last_mem {l : List (Int × Int)} (h : l ≠ []) : l.getD (l.length - 1) (0, 0) ∈ l := by
  have hl : 0 < l.length := List.length_pos_iff.2 h
  rw [List.getD_eq_getElem?_getD, List.getElem?_eq_getElem (by omega)]
  exact List.getElem_mem _
theorem last_le {l : List (Int × Int)} (h : l.Pairwise (fun a b => a.1 < b.1)) : ∀ x ∈ l, x.1 ≤ lastT l := by
  intro x hx
  obtain ⟨i, hi, rfl⟩ := List.mem_iff_getElem.1 hx
  unfold lastT
  rw [List.getD_eq_getElem?_getD, List.getElem?_eq_getElem (by omega)]
  rcases Nat.lt_or_ge i (l.length - 1) with hlt | hge
  · exact Int.le_of_lt (List.pairwise_iff_getElem.1 h i (l.length - 1) hi (by omega) hlt)
  · have e : i = l.length - 1 := by omega
    subst e
    exact Int.le_refl _
theorem Played.seal_ {h : Hd} {out : List (Int × Int)} {n : Nat} (hp : Played h out n) : Played (sealH h).1 (out ++ (sealH h).2.1) n := by
  have hmay := seal_may hp.may
  have hc := hp.count
  unfold sealH at hmay ⊢
  rw [if_neg (by simpa using hp.may)] at hmay ⊢
  by_cases he : h.l = []
  · rw [if_pos he]
    simp only [List.append_nil]
    exact hp
  · rw [if_neg he] at hmay ⊢
    have hpr := ((rise_pair _).1 hp.may.2.2.1).2
    have hb := hp.may.2.2.2.2
    refine ⟨hmay, List.pairwise_append.2 ⟨hp.pair, hpr, fun a ha b hb2 => ?_⟩, fun x hx => ?_, by simp only [List.length_append, List.length_nil]; omega⟩
    · have h1 := hp.below a ha
      have h2 := (hb b hb2).1
      omega
    · simp only [List.mem_append] at hx ⊢
      have hL := last_le hpr
      rcases hx with hx | hx
      · have h1 := hp.below x hx
        have h2 := (hb _ (last_mem he)).1
        unfold lastT
        omega
      · have := hL x hx
        omega
/-- What Seal says of a head that may be. -/
theorem seal_cases {h : Hd} (hm : h.may) : (h.l = [] ∧ sealH h = (h, [], 0, 0, 9)) ∨ (h.l ≠ [] ∧ sealH h = (⟨lastT h.l + 1, []⟩, h.l, h.sl, lastT h.l + 1, 0)) := by
  unfold sealH
  rw [if_neg (by simpa using hm)]
  by_cases he : h.l = []
  · exact .inl ⟨he, if_pos he⟩
  · exact .inr ⟨he, if_neg he⟩
/-- Samples whose times rise are laid behind one another. -/
theorem cnt_all {e : Int} : ∀ {l : List (Int × Int)}, (∀ x ∈ l, x.1 < e) → cnt e l = l.length
  | [], _ => rfl
  | x :: r, h => by
    have ih := cnt_all (l := r) (fun y hy => h y (by simp [hy]))
    show (if x.1 < e then cnt e r + 1 else 0) = _
    rw [if_pos (h x (by simp)), ih]
    rfl
theorem ins_last {s : Int × Int} {l : List (Int × Int)} (h : ∀ x ∈ l, x.1 < s.1) : ins s l = l ++ [s] := by
  unfold ins
  rw [cnt_all h]
  simp
end Go.Proofs.YtepancmkopifpaaDoor
