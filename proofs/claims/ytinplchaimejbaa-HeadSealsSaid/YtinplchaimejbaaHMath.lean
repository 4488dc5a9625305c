/-
  Plain: heads: which may be, a sample put, a seal, when one is due. No program in it.
-/
import Derived.Test.YtinplchaimejbaaTSmall
namespace Go.Proofs.Ytinplchaimejbaa
set_option linter.unusedVariables false

/-- A head: where it is sealed, its samples. -/
structure Hd where
  sl : Int
  l : List (Int × Int)
def Hd.none : Hd := ⟨0, []⟩
def Hd.may (h : Hd) : Prop := 0 ≤ h.sl ∧ h.sl ≤ 1099511627776 ∧ Rise h.l ∧ h.l.length ≤ 64 ∧ ∀ s ∈ h.l, h.sl ≤ s.1 ∧ s.1 < 1099511627776
instance (h : Hd) : Decidable h.may := by unfold Hd.may; infer_instance
def inT (t : Int) : Prop := 0 ≤ t ∧ t < 1099511627776
instance (t : Int) : Decidable (inT t) := by unfold inT; infer_instance
/-- A sample in its place. -/
def ins (s : Int × Int) (l : List (Int × Int)) : List (Int × Int) := l.take (cnt s.1 l) ++ [s] ++ l.drop (cnt s.1 l)
/-- Is there a sample of that time? -/
def has (t : Int) (l : List (Int × Int)) : Prop := ∃ s ∈ l, s.1 = t
instance (t : Int) (l : List (Int × Int)) : Decidable (has t l) := by unfold has; infer_instance
/-- What Put says. -/
def putH (h : Hd) (s : Int × Int) : Hd × Int :=
  if ¬ h.may ∨ ¬ inT s.1 then (h, 1) else
  if s.1 < h.sl then (h, 6) else
  if has s.1 h.l then (h, 7) else
  if 64 ≤ h.l.length then (h, 8) else (⟨h.sl, ins s h.l⟩, 0)
/-- The last sample's time. -/
def lastT (l : List (Int × Int)) : Int := (l.getD (l.length - 1) (0, 0)).1
/-- What Seal says: the head, the samples, from, to, the code. -/
def sealH (h : Hd) : Hd × List (Int × Int) × Int × Int × Int :=
  if ¬ h.may then (h, [], 0, 0, 1) else
  if h.l = [] then (h, [], 0, 0, 9) else (⟨lastT h.l + 1, []⟩, h.l, h.sl, lastT h.l + 1, 0)

theorem rise_pair : ∀ (l : List (Int × Int)), Rise l ↔ (∀ s ∈ l, Ag.begin_ s.1) ∧ l.Pairwise (fun a b => a.1 < b.1)
  | [] => ⟨fun _ => ⟨fun s hs => by simp at hs, List.Pairwise.nil⟩, fun _ i hi => by simp at hi⟩
  | x :: r => by
    have ih := rise_pair r
    constructor
    · intro h
      obtain ⟨h1, h2⟩ := ih.1 (rise_tail h)
      refine ⟨fun s hs => ?_, List.Pairwise.cons (fun y hy => (rise_lt h y hy).1) h2⟩
      rw [List.mem_cons] at hs
      rcases hs with rfl | hs
      · exact rise_head h
      · exact h1 s hs
    · rintro ⟨h1, h2⟩ i hi
      have hp := List.pairwise_iff_getElem.1 h2
      have hg : ∀ j (hj : j < (x :: r).length), (x :: r).getD j (0, 0) = (x :: r)[j] := fun j hj => by rw [List.getD_eq_getElem?_getD, List.getElem?_eq_getElem hj]; rfl
      refine ⟨?_, fun h0 => ?_⟩
      · unfold tAt
        rw [hg i hi]
        exact h1 _ (List.getElem_mem _)
      · unfold tAt
        rw [hg i hi, hg (i - 1) (by omega)]
        exact hp (i - 1) i (by omega) hi (by omega)
theorem mem_ins {s x : Int × Int} {l : List (Int × Int)} : x ∈ ins s l ↔ x = s ∨ x ∈ l := by
  unfold ins
  have e := List.take_append_drop (cnt s.1 l) l
  constructor
  · intro h
    simp only [List.mem_append, List.mem_singleton] at h
    rcases h with (h | h) | h
    · exact .inr (List.mem_of_mem_take h)
    · exact .inl h
    · exact .inr (List.mem_of_mem_drop h)
  · intro h
    simp only [List.mem_append, List.mem_singleton]
    rcases h with h | h
    · exact .inl (.inr h)
    · rw [← e, List.mem_append] at h
      rcases h with h | h
      · exact .inl (.inl h)
      · exact .inr h
theorem ins_len (s : Int × Int) (l : List (Int × Int)) : (ins s l).length = l.length + 1 := by
  unfold ins
  have := cnt_le s.1 l
  simp only [List.length_append, List.length_take, List.length_drop, List.length_singleton]
  omega
theorem drop_ge {e : Int} {l : List (Int × Int)} (h : l.Pairwise (fun a b => a.1 < b.1)) : ∀ x ∈ l.drop (cnt e l), ¬ x.1 < e := by
  intro x hx
  rcases hd : l.drop (cnt e l) with _ | ⟨y, r⟩
  · rw [hd] at hx; simp at hx
  · have h1 := cnt_drop hd
    have h2 : (l.drop (cnt e l)).Pairwise (fun a b => a.1 < b.1) := h.sublist (List.drop_sublist _ _)
    rw [hd] at hx h2
    rw [List.mem_cons] at hx
    rcases hx with rfl | hx
    · exact h1
    · have := (List.pairwise_cons.1 h2).1 x hx
      omega
theorem ins_pair {s : Int × Int} {l : List (Int × Int)} (h : l.Pairwise (fun a b => a.1 < b.1)) (hn : ¬ has s.1 l) : (ins s l).Pairwise (fun a b => a.1 < b.1) := by
  unfold ins
  have h1 : (l.take (cnt s.1 l)).Pairwise (fun a b => a.1 < b.1) := h.sublist (List.take_sublist _ _)
  have h2 : (l.drop (cnt s.1 l)).Pairwise (fun a b => a.1 < b.1) := h.sublist (List.drop_sublist _ _)
  have h3 : ∀ x ∈ l.take (cnt s.1 l), x.1 < s.1 := cnt_take
  have h4 : ∀ x ∈ l.drop (cnt s.1 l), s.1 < x.1 := fun x hx => by
    have h5 := drop_ge (e := s.1) h x hx
    have h6 : x.1 ≠ s.1 := fun e => hn ⟨x, List.mem_of_mem_drop hx, e⟩
    omega
  refine List.pairwise_append.2 ⟨List.pairwise_append.2 ⟨h1, by simp, fun a ha b hb => ?_⟩, h2, fun a ha b hb => ?_⟩
  · rw [List.mem_singleton] at hb
    subst hb
    exact h3 a ha
  · rw [List.mem_append, List.mem_singleton] at ha
    rcases ha with ha | rfl
    · have := h3 a ha
      have := h4 b hb
      omega
    · exact h4 b hb
theorem pair_uniq : ∀ {a b : List (Int × Int)}, a.Pairwise (fun x y => x.1 < y.1) → b.Pairwise (fun x y => x.1 < y.1) → (∀ x, x ∈ a ↔ x ∈ b) → a = b
  | [], [], _, _, _ => rfl
  | [], y :: s, _, _, h => by have := (h y).2 (by simp); simp at this
  | x :: r, [], _, _, h => by have := (h x).1 (by simp); simp at this
  | x :: r, y :: s, ha, hb, h => by
    obtain ⟨a1, a2⟩ := List.pairwise_cons.1 ha
    obtain ⟨b1, b2⟩ := List.pairwise_cons.1 hb
    have hxy : x = y := by
      have h1 := (h x).1 (by simp)
      have h2 := (h y).2 (by simp)
      rw [List.mem_cons] at h1 h2
      rcases h1 with h1 | h1
      · exact h1
      · rcases h2 with h2 | h2
        · exact h2.symm
        · have := a1 y h2
          have := b1 x h1
          omega
    subst hxy
    congr 1
    refine pair_uniq a2 b2 (fun z => ?_)
    constructor
    · intro hz
      have h1 := (h z).1 (by simp [hz])
      rw [List.mem_cons] at h1
      rcases h1 with rfl | h1
      · have := a1 z hz; omega
      · exact h1
    · intro hz
      have h1 := (h z).2 (by simp [hz])
      rw [List.mem_cons] at h1
      rcases h1 with rfl | h1
      · have := b1 z hz; omega
      · exact h1
theorem none_may : Hd.none.may := ⟨by decide, by decide, fun i hi => by simp [Hd.none] at hi, by decide, fun s hs => by simp [Hd.none] at hs⟩
/-- What a sample that is taken makes of a head. -/
theorem put_may {h : Hd} {s : Int × Int} (hm : h.may) : (putH h s).1.may := by
  unfold putH
  split
  · exact hm
  next h1 =>
  split
  · exact hm
  next h2 =>
  split
  · exact hm
  next h3 =>
  split
  · exact hm
  next h4 =>
  obtain ⟨m1, m2, m3, m4, m5⟩ := hm
  have hs : inT s.1 := by
    by_cases hi : inT s.1
    · exact hi
    · exact absurd (.inr hi) h1
  unfold inT at hs
  refine ⟨m1, m2, (rise_pair _).2 ⟨fun x hx => ?_, ins_pair ((rise_pair _).1 m3).2 h3⟩, by rw [ins_len]; omega, fun x hx => ?_⟩
  · rcases mem_ins.1 hx with rfl | hx
    · unfold Ag.begin_; omega
    · exact ((rise_pair _).1 m3).1 x hx
  · rcases mem_ins.1 hx with rfl | hx
    · exact ⟨by show h.sl ≤ _; omega, by omega⟩
    · exact m5 x hx
theorem seal_may {h : Hd} (hm : h.may) : (sealH h).1.may := by
  unfold sealH
  rw [if_neg (by simpa using hm)]
  split
  · exact hm
  · next hne =>
    have hl : 0 < h.l.length := List.length_pos_iff.2 hne
    have hx := hm.2.2.2.2 (h.l.getD (h.l.length - 1) (0, 0)) (by
      rw [List.getD_eq_getElem?_getD, List.getElem?_eq_getElem (by omega)]
      exact List.getElem_mem _)
    have h0 := hm.1
    refine ⟨by simp only [lastT]; omega, by simp only [lastT]; omega, fun i hi => by simp at hi, by simp, fun s hs => by simp at hs⟩
end Go.Proofs.Ytinplchaimejbaa
