/-
  Plain: heads: which may be, a sample put, a seal, when one is due. No program in it.
  Plain: heads that samples were put into, in any order; heads that are sealed now and then; full ones. No program in it.
  Plain: segments made up of samples that rise, laid from a time on. No program in it.
  SameSeg of segments that read as one; Name of 3 and of 0: what each returns.
  What told asks of the segment (3, 0 to 10, a sample of 5 at 3): what each call returns.
  told: it returns true; nothing that was there is written.
-/
import Derived.Test.YtepancmkopifpaaGreatDoorGRoll
import Derived.Test.YtepancmkopifpaaGreatDoorFoldKit
import Derived.Test.YtepancmkopifpaaGreatDoorSInfo
import Derived.Test.YtepancmkopifpaaGreatDoorZMay
import Derived.Test.YtepancmkopifpaaGreatDoorSRollG
import Derived.Lib.MinMax
namespace Go.Proofs.YtepancmkopifpaaGreatDoor
set_option linter.unusedVariables false

/-- A head: where it is sealed, its samples. -/
structure Hd where
  sl : Int
  l : List (Int × Int)
def Hd.none : Hd := ⟨0, []⟩
def Hd.may (h : Hd) : Prop := 0 ≤ h.sl ∧ h.sl ≤ 1099511627776 ∧ Rise h.l ∧ h.l.length ≤ 64 ∧ ∀ s ∈ h.l, h.sl ≤ s.1 ∧ s.1 < 1099511627776
instance (h : Hd) : Decidable h.may := by unfold Hd.may; infer_instance
def inT (t : Int) : Prop := 0 ≤ t ∧ t < 1099511627776
instance (t : Int) : Decidable (inT t) := by unfold inT; infer_instance
/-- A sample in its place. -/
def ins (s : Int × Int) (l : List (Int × Int)) : List (Int × Int) := l.take (cnt s.1 l) ++ [s] ++ l.drop (cnt s.1 l)
/-- Is there a sample of that time? -/
def has (t : Int) (l : List (Int × Int)) : Prop := ∃ s ∈ l, s.1 = t
instance (t : Int) (l : List (Int × Int)) : Decidable (has t l) := by unfold has; infer_instance
/-- What Put says. -/
def putH (h : Hd) (s : Int × Int) : Hd × Int :=
  if ¬ h.may ∨ ¬ inT s.1 then (h, 1) else
  if s.1 < h.sl then (h, 6) else
  if has s.1 h.l then (h, 7) else
  if 64 ≤ h.l.length then (h, 8) else (⟨h.sl, ins s h.l⟩, 0)
/-- The last sample's time. -/
def lastT (l : List (Int × Int)) : Int := (l.getD (l.length - 1) (0, 0)).1
/-- What Seal says: the head, the samples, from, to, the code. -/
def sealH (h : Hd) : Hd × List (Int × Int) × Int × Int × Int :=
  if ¬ h.may then (h, [], 0, 0, 1) else
  if h.l = [] then (h, [], 0, 0, 9) else (⟨lastT h.l + 1, []⟩, h.l, h.sl, lastT h.l + 1, 0)

theorem rise_pair : ∀ (l : List (Int × Int)), Rise l ↔ (∀ s ∈ l, Ag.begin_ s.1) ∧ l.Pairwise (fun a b => a.1 < b.1)
  | [] => ⟨fun _ => ⟨fun s hs => by simp at hs, List.Pairwise.nil⟩, fun _ i hi => by simp at hi⟩
  | x :: r => by
    have ih := rise_pair r
    constructor
    · intro h
      obtain ⟨h1, h2⟩ := ih.1 (rise_tail h)
      refine ⟨fun s hs => ?_, List.Pairwise.cons (fun y hy => (rise_lt h y hy).1) h2⟩
      rw [List.mem_cons] at hs
      rcases hs with rfl | hs
      · exact rise_head h
      · exact h1 s hs
    · rintro ⟨h1, h2⟩ i hi
      have hp := List.pairwise_iff_getElem.1 h2
      have hg : ∀ j (hj : j < (x :: r).length), (x :: r).getD j (0, 0) = (x :: r)[j] := fun j hj => by rw [List.getD_eq_getElem?_getD, List.getElem?_eq_getElem hj]; rfl
      refine ⟨?_, fun h0 => ?_⟩
      · unfold tAt
        rw [hg i hi]
        exact h1 _ (List.getElem_mem _)
      · unfold tAt
        rw [hg i hi, hg (i - 1) (by omega)]
        exact hp (i - 1) i (by omega) hi (by omega)
theorem mem_ins {s x : Int × Int} {l : List (Int × Int)} : x ∈ ins s l ↔ x = s ∨ x ∈ l := by
  unfold ins
  have e := List.take_append_drop (cnt s.1 l) l
  constructor
  · intro h
    simp only [List.mem_append, List.mem_singleton] at h
    rcases h with (h | h) | h
    · exact .inr (List.mem_of_mem_take h)
    · exact .inl h
    · exact .inr (List.mem_of_mem_drop h)
  · intro h
    simp only [List.mem_append, List.mem_singleton]
    rcases h with h | h
    · exact .inl (.inr h)
    · rw [← e, List.mem_append] at h
      rcases h with h | h
      · exact .inl (.inl h)
      · exact .inr h
theorem ins_len (s : Int × Int) (l : List (Int × Int)) : (ins s l).length = l.length + 1 := by
  unfold ins
  have := cnt_le s.1 l
  simp only [List.length_append, List.length_take, List.length_drop, List.length_singleton]
  omega
theorem drop_ge {e : Int} {l : List (Int × Int)} (h : l.Pairwise (fun a b => a.1 < b.1)) : ∀ x ∈ l.drop (cnt e l), ¬ x.1 < e := by
  intro x hx
  rcases hd : l.drop (cnt e l) with _ | ⟨y, r⟩
  · rw [hd] at hx; simp at hx
  · have h1 := cnt_drop hd
    have h2 : (l.drop (cnt e l)).Pairwise (fun a b => a.1 < b.1) := h.sublist (List.drop_sublist _ _)
    rw [hd] at hx h2
    rw [List.mem_cons] at hx
    rcases hx with rfl | hx
    · exact h1
    · have := (List.pairwise_cons.1 h2).1 x hx
      omega
theorem ins_pair {s : Int × Int} {l : List (Int × Int)} (h : l.Pairwise (fun a b => a.1 < b.1)) (hn : ¬ has s.1 l) : (ins s l).Pairwise (fun a b => a.1 < b.1) := by
  unfold ins
  have h1 : (l.take (cnt s.1 l)).Pairwise (fun a b => a.1 < b.1) := h.sublist (List.take_sublist _ _)
  have h2 : (l.drop (cnt s.1 l)).Pairwise (fun a b => a.1 < b.1) := h.sublist (List.drop_sublist _ _)
  have h3 : ∀ x ∈ l.take (cnt s.1 l), x.1 < s.1 := cnt_take
  have h4 : ∀ x ∈ l.drop (cnt s.1 l), s.1 < x.1 := fun x hx => by
    have h5 := drop_ge (e := s.1) h x hx
    have h6 : x.1 ≠ s.1 := fun e => hn ⟨x, List.mem_of_mem_drop hx, e⟩
    omega
  refine List.pairwise_append.2 ⟨List.pairwise_append.2 ⟨h1, by simp, fun a ha b hb => ?_⟩, h2, fun a ha b hb => ?_⟩
  · rw [List.mem_singleton] at hb
    subst hb
    exact h3 a ha
  · rw [List.mem_append, List.mem_singleton] at ha
    rcases ha with ha | rfl
    · have := h3 a ha
      have := h4 b hb
      omega
    · exact h4 b hb
theorem pair_uniq : ∀ {a b : List (Int × Int)}, a.Pairwise (fun x y => x.1 < y.1) → b.Pairwise (fun x y => x.1 < y.1) → (∀ x, x ∈ a ↔ x ∈ b) → a = b
  | [], [], _, _, _ => rfl
  | [], y :: s, _, _, h => by have := (h y).2 (by simp); simp at this
  | x :: r, [], _, _, h => by have := (h x).1 (by simp); simp at this
  | x :: r, y :: s, ha, hb, h => by
    obtain ⟨a1, a2⟩ := List.pairwise_cons.1 ha
    obtain ⟨b1, b2⟩ := List.pairwise_cons.1 hb
    have hxy : x = y := by
      have h1 := (h x).1 (by simp)
      have h2 := (h y).2 (by simp)
      rw [List.mem_cons] at h1 h2
      rcases h1 with h1 | h1
      · exact h1
      · rcases h2 with h2 | h2
        · exact h2.symm
        · have := a1 y h2
          have := b1 x h1
          omega
    subst hxy
    congr 1
    refine pair_uniq a2 b2 (fun z => ?_)
    constructor
    · intro hz
      have h1 := (h z).1 (by simp [hz])
      rw [List.mem_cons] at h1
      rcases h1 with rfl | h1
      · have := a1 z hz; omega
      · exact h1
    · intro hz
      have h1 := (h z).2 (by simp [hz])
      rw [List.mem_cons] at h1
      rcases h1 with rfl | h1
      · have := b1 z hz; omega
      · exact h1
theorem none_may : Hd.none.may := ⟨by decide, by decide, fun i hi => by simp [Hd.none] at hi, by decide, fun s hs => by simp [Hd.none] at hs⟩
/-- What a sample that is taken makes of a head. -/
theorem put_may {h : Hd} {s : Int × Int} (hm : h.may) : (putH h s).1.may := by
  unfold putH
  split
  · exact hm
  next h1 =>
  split
  · exact hm
  next h2 =>
  split
  · exact hm
  next h3 =>
  split
  · exact hm
  next h4 =>
  obtain ⟨m1, m2, m3, m4, m5⟩ := hm
  have hs : inT s.1 := by
    by_cases hi : inT s.1
    · exact hi
    · exact absurd (.inr hi) h1
  unfold inT at hs
  refine ⟨m1, m2, (rise_pair _).2 ⟨fun x hx => ?_, ins_pair ((rise_pair _).1 m3).2 h3⟩, by rw [ins_len]; omega, fun x hx => ?_⟩
  · rcases mem_ins.1 hx with rfl | hx
    · unfold Ag.begin_; omega
    · exact ((rise_pair _).1 m3).1 x hx
  · rcases mem_ins.1 hx with rfl | hx
    · exact ⟨by show h.sl ≤ _; omega, by omega⟩
    · exact m5 x hx
theorem seal_may {h : Hd} (hm : h.may) : (sealH h).1.may := by
  unfold sealH
  rw [if_neg (by simpa using hm)]
  split
  · exact hm
  · next hne =>
    have hl : 0 < h.l.length := List.length_pos_iff.2 hne
    have hx := hm.2.2.2.2 (h.l.getD (h.l.length - 1) (0, 0)) (by
      rw [List.getD_eq_getElem?_getD, List.getElem?_eq_getElem (by omega)]
      exact List.getElem_mem _)
    have h0 := hm.1
    refine ⟨by simp only [lastT]; omega, by simp only [lastT]; omega, fun i hi => by simp at hi, by simp, fun s hs => by simp at hs⟩
end Go.Proofs.YtepancmkopifpaaGreatDoor
namespace Go.Proofs.YtepancmkopifpaaGreatDoor
set_option linter.unusedVariables false

/-- What Put says of a head that may be, and a time that may be. -/
theorem put_cases {h : Hd} {s : Int × Int} (hm : h.may) (ht : inT s.1) :
    (s.1 < h.sl ∧ putH h s = (h, 6)) ∨ (h.sl ≤ s.1 ∧ has s.1 h.l ∧ putH h s = (h, 7)) ∨ (h.sl ≤ s.1 ∧ ¬ has s.1 h.l ∧ 64 ≤ h.l.length ∧ putH h s = (h, 8)) ∨
    (h.sl ≤ s.1 ∧ ¬ has s.1 h.l ∧ h.l.length < 64 ∧ putH h s = (⟨h.sl, ins s h.l⟩, 0)) := by
  unfold putH
  rw [if_neg (show ¬ (¬ h.may ∨ ¬ inT s.1) from fun e => e.elim (fun e => e hm) (fun e => e ht))]
  by_cases h1 : s.1 < h.sl
  · exact .inl ⟨h1, if_pos h1⟩
  · rw [if_neg h1]
    by_cases h2 : has s.1 h.l
    · exact .inr (.inl ⟨by omega, h2, if_pos h2⟩)
    · rw [if_neg h2]
      by_cases h3 : 64 ≤ h.l.length
      · exact .inr (.inr (.inl ⟨by omega, h2, h3, if_pos h3⟩))
      · exact .inr (.inr (.inr ⟨by omega, h2, by omega, if_neg h3⟩))
/-- A head that these samples made, each with the value that goes with its time. -/
structure Made (f : Int → Int) (S : List (Int × Int)) (h : Hd) : Prop where
  may : h.may
  sl : h.sl = 0
  mem : ∀ x, x ∈ h.l ↔ x ∈ S
  val : ∀ x ∈ S, x.2 = f x.1
  len : h.l.length ≤ S.length
theorem Made.none (f : Int → Int) : Made f [] Hd.none := ⟨none_may, rfl, fun x => by simp [Hd.none], fun x hx => by simp at hx, by simp [Hd.none]⟩
theorem Made.put {f : Int → Int} {S : List (Int × Int)} {h : Hd} (hm : Made f S h) {t : Int} (ht : inT t) (hS : S.length < 64) : Made f (S ++ [(t, f t)]) (putH h (t, f t)).1 := by
  have hmay := put_may (s := (t, f t)) hm.may
  have hl := hm.len
  have hval : ∀ x ∈ S ++ [(t, f t)], x.2 = f x.1 := fun x hx => by
    rw [List.mem_append, List.mem_singleton] at hx
    rcases hx with hx | rfl
    · exact hm.val x hx
    · rfl
  rcases put_cases (s := (t, f t)) hm.may ht with ⟨h1, e⟩ | ⟨h1, h2, e⟩ | ⟨h1, h2, h3, e⟩ | ⟨h1, h2, h3, e⟩
  · have := hm.sl
    unfold inT at ht
    simp only at h1
    omega
  · rw [e] at hmay ⊢
    refine ⟨hmay, hm.sl, fun x => ?_, hval, by rw [List.length_append]; simp only; omega⟩
    simp only [List.mem_append, List.mem_singleton]
    rw [hm.mem x]
    constructor
    · exact .inl
    · rintro (hx | rfl)
      · exact hx
      · obtain ⟨y, hy, e2⟩ := h2
        have hy2 := (hm.mem y).1 hy
        have hv := hm.val y hy2
        have : y = (t, f t) := by
          obtain ⟨y1, y2⟩ := y
          simp only at e2 hv
          rw [hv, e2]
        rw [← this]
        exact hy2
  · omega
  · rw [e] at hmay ⊢
    refine ⟨hmay, hm.sl, fun x => ?_, hval, by simp only [ins_len, List.length_append, List.length_singleton]; omega⟩
    simp only [List.mem_append, List.mem_singleton]
    rw [mem_ins, hm.mem x]
    exact Or.comm
theorem Made.same {f : Int → Int} {S S' : List (Int × Int)} {a b : Hd} (ha : Made f S a) (hb : Made f S' b) (h : ∀ x, x ∈ S ↔ x ∈ S') : a = b := by
  have e : a.l = b.l := pair_uniq ((rise_pair _).1 ha.may.2.2.1).2 ((rise_pair _).1 hb.may.2.2.1).2 (fun x => by rw [ha.mem, hb.mem, h])
  have e2 : a.sl = b.sl := by rw [ha.sl, hb.sl]
  obtain ⟨x, y⟩ := a
  obtain ⟨u, v⟩ := b
  simp only at e e2
  rw [e, e2]

/-- A head, and what came out of it. -/
structure Played (h : Hd) (out : List (Int × Int)) (n : Nat) : Prop where
  may : h.may
  pair : out.Pairwise (fun a b => a.1 < b.1)
  below : ∀ x ∈ out, x.1 < h.sl
  count : n = out.length + h.l.length
theorem Played.none : Played Hd.none [] 0 := ⟨none_may, List.Pairwise.nil, fun x hx => by simp at hx, rfl⟩
theorem Played.put {h : Hd} {out : List (Int × Int)} {n : Nat} (hp : Played h out n) (s : Int × Int) : Played (putH h s).1 out (if (putH h s).2 = 0 then n + 1 else n) := by
  have hmay := put_may (s := s) hp.may
  have hc := hp.count
  by_cases ht : inT s.1
  · rcases put_cases hp.may ht with ⟨h1, e⟩ | ⟨h1, h2, e⟩ | ⟨h1, h2, h3, e⟩ | ⟨h1, h2, h3, e⟩
    · rw [e]
      exact hp
    · rw [e]
      exact hp
    · rw [e]
      exact hp
    · rw [e] at hmay ⊢
      refine ⟨hmay, hp.pair, hp.below, ?_⟩
      simp only [if_true, ins_len]
      omega
  · have e : putH h s = (h, 1) := by unfold putH; rw [if_pos (.inr ht)]
    rw [e]
    exact hp
theorem last_mem {l : List (Int × Int)} (h : l ≠ []) : l.getD (l.length - 1) (0, 0) ∈ l := by
  have hl : 0 < l.length := List.length_pos_iff.2 h
  rw [List.getD_eq_getElem?_getD, List.getElem?_eq_getElem (by omega)]
  exact List.getElem_mem _
theorem last_le {l : List (Int × Int)} (h : l.Pairwise (fun a b => a.1 < b.1)) : ∀ x ∈ l, x.1 ≤ lastT l := by
  intro x hx
  obtain ⟨i, hi, rfl⟩ := List.mem_iff_getElem.1 hx
  unfold lastT
  rw [List.getD_eq_getElem?_getD, List.getElem?_eq_getElem (by omega)]
  rcases Nat.lt_or_ge i (l.length - 1) with hlt | hge
  · exact Int.le_of_lt (List.pairwise_iff_getElem.1 h i (l.length - 1) hi (by omega) hlt)
  · have e : i = l.length - 1 := by omega
    subst e
    exact Int.le_refl _
theorem Played.seal_ {h : Hd} {out : List (Int × Int)} {n : Nat} (hp : Played h out n) : Played (sealH h).1 (out ++ (sealH h).2.1) n := by
  have hmay := seal_may hp.may
  have hc := hp.count
  unfold sealH at hmay ⊢
  rw [if_neg (by simpa using hp.may)] at hmay ⊢
  by_cases he : h.l = []
  · rw [if_pos he]
    simp only [List.append_nil]
    exact hp
  · rw [if_neg he] at hmay ⊢
    have hpr := ((rise_pair _).1 hp.may.2.2.1).2
    have hb := hp.may.2.2.2.2
    refine ⟨hmay, List.pairwise_append.2 ⟨hp.pair, hpr, fun a ha b hb2 => ?_⟩, fun x hx => ?_, by simp only [List.length_append, List.length_nil]; omega⟩
    · have h1 := hp.below a ha
      have h2 := (hb b hb2).1
      omega
    · simp only [List.mem_append] at hx ⊢
      have hL := last_le hpr
      rcases hx with hx | hx
      · have h1 := hp.below x hx
        have h2 := (hb _ (last_mem he)).1
        unfold lastT
        omega
      · have := hL x hx
        omega
/-- What Seal says of a head that may be. -/
theorem seal_cases {h : Hd} (hm : h.may) : (h.l = [] ∧ sealH h = (h, [], 0, 0, 9)) ∨ (h.l ≠ [] ∧ sealH h = (⟨lastT h.l + 1, []⟩, h.l, h.sl, lastT h.l + 1, 0)) := by
  unfold sealH
  rw [if_neg (by simpa using hm)]
  by_cases he : h.l = []
  · exact .inl ⟨he, if_pos he⟩
  · exact .inr ⟨he, if_neg he⟩
/-- Samples whose times rise are laid behind one another. -/
theorem cnt_all {e : Int} : ∀ {l : List (Int × Int)}, (∀ x ∈ l, x.1 < e) → cnt e l = l.length
  | [], _ => rfl
  | x :: r, h => by
    have ih := cnt_all (l := r) (fun y hy => h y (by simp [hy]))
    show (if x.1 < e then cnt e r + 1 else 0) = _
    rw [if_pos (h x (by simp)), ih]
    rfl
theorem ins_last {s : Int × Int} {l : List (Int × Int)} (h : ∀ x ∈ l, x.1 < s.1) : ins s l = l ++ [s] := by
  unfold ins
  rw [cnt_all h]
  simp
end Go.Proofs.YtepancmkopifpaaGreatDoor
namespace Go.Proofs.YtepancmkopifpaaGreatDoor
set_option linter.unusedVariables false

def shiftL (f : Int) (l : List (Int × Int)) : List (Int × Int) := l.map fun s => (s.1 + f, bil s.2)
theorem shift_len (f : Int) (l : List (Int × Int)) : (shiftL f l).length = l.length := by simp [shiftL]
theorem mem_shift {f : Int} {l : List (Int × Int)} {x : Int × Int} (h : x ∈ shiftL f l) : ∃ s ∈ l, x = (s.1 + f, bil s.2) := by
  obtain ⟨s, hs, e⟩ := List.mem_map.1 h
  exact ⟨s, hs, e.symm⟩
theorem shift_rise {f : Int} {l : List (Int × Int)} (h : Rise l) (hf : 0 ≤ f) (hb : ∀ s ∈ l, s.1 + f ≤ 1099511627776) : Rise (shiftL f l) := by
  obtain ⟨h1, h2⟩ := (rise_pair l).1 h
  refine (rise_pair _).2 ⟨fun x hx => ?_, ?_⟩
  · obtain ⟨s, hs, rfl⟩ := mem_shift hx
    have := h1 s hs
    have := hb s hs
    unfold Ag.begin_ at *
    simp only
    omega
  · unfold shiftL
    refine List.pairwise_map.2 (h2.imp fun {a b} hab => ?_)
    simp only
    omega
theorem shift_small (f : Int) (l : List (Int × Int)) : SmallL (shiftL f l) := by
  intro x hx
  obtain ⟨s, hs, rfl⟩ := mem_shift hx
  exact bil_lt s.2
/-- The segment that Make makes of samples that rise. -/
def madeS (id f r : Int) (l : List (Int × Int)) : Sg := ⟨id, 0, f, lastT (shiftL f l) + 1 + r, shiftL f l, []⟩
theorem made_raw {id f r : Int} {l : List (Int × Int)} (hne : 0 < l.length) (hl : l.length ≤ 64) (hr : Rise l) (hb : ∀ s ∈ l, s.1 ≤ 1000000) (hf : 0 ≤ f ∧ f ≤ 1000000) (hid : 1 ≤ id ∧ id ≤ 1073741824) (hr7 : 0 ≤ r ∧ r ≤ 1000) : Raw0 (madeS id f r l) := by
  have hsr := shift_rise (f := f) hr hf.1 (fun s hs => by have := hb s hs; omega)
  have hp := ((rise_pair _).1 hsr).2
  have hne2 : shiftL f l ≠ [] := fun e => by have := shift_len f l; rw [e] at this; simp at this; omega
  have hlast := last_mem hne2
  obtain ⟨s, hs, e⟩ := mem_shift hlast
  have hlt : lastT (shiftL f l) = s.1 + f := by unfold lastT; rw [e]
  have hs1 := ((rise_pair l).1 hr).1 s hs
  have hs2 := hb s hs
  unfold Ag.begin_ at hs1
  refine ⟨⟨hid, ⟨Int.le_refl 0, by show (0 : Int) ≤ 3; decide⟩, ⟨hf.1, ?_, ?_⟩, ?_⟩, rfl, shift_small f l⟩
  · show f < lastT (shiftL f l) + 1 + r
    omega
  · show lastT (shiftL f l) + 1 + r ≤ 1099511627776
    omega
  · unfold Sg.has_
    rw [if_pos (show (madeS id f r l).tier = 0 from rfl)]
    refine ⟨rfl, ?_, ?_, hsr, fun x hx => ⟨?_, ?_⟩⟩
    · show 0 < (shiftL f l).length
      rw [shift_len]
      exact hne
    · show (shiftL f l).length ≤ 64
      rw [shift_len]
      exact hl
    · obtain ⟨y, hy, rfl⟩ := mem_shift hx
      have := ((rise_pair l).1 hr).1 y hy
      unfold Ag.begin_ at this
      show f ≤ y.1 + f
      omega
    · have := last_le hp x hx
      show x.1 < lastT (shiftL f l) + 1 + r
      omega
theorem made_ok {id f r : Int} {l : List (Int × Int)} (h : Raw0 (madeS id f r l)) : (madeS id f r l).ok := by
  obtain ⟨⟨a1, a2⟩, ⟨a3, a4⟩, ⟨a5, a6, a7⟩, a8⟩ := h.may
  refine ⟨by unfold In64; omega, by unfold In64; omega, by unfold In64; omega, by unfold In64; omega, fun x hx => ?_, fun a ha => by simp [madeS] at ha⟩
  have h1 := h.has.2.2.2.2 x hx
  have h2 := h.small x hx
  unfold In64
  omega
end Go.Proofs.YtepancmkopifpaaGreatDoor
set_option maxRecDepth 100000
namespace Go.Proofs.YtepancmkopifpaaGreatDoor
open Go.RowKit
attribute [local go_sem ↓] Go.wp_at_zero Go.wp_at_succ
set_option linter.unusedVariables false

set_option maxHeartbeats 1000000 in
theorem sameSeg_eq {i k f t : Int} {sm : List (Int × Int)} {ag : List Ag} {A A' B B' : Option Addr} {n ca m cb n' ca' m' cb' : Nat} {w : World} (h1 : SegAt w ⟨i, k, f, t, sm, ag⟩ A n ca B m cb) (h2 : SegAt w ⟨i, k, f, t, sm, ag⟩ A' n' ca' B' m' cb') :
    Calls Tryz.prog 16 #[.agg #[.int .i64 i, .int .i64 k, .int .i64 f, .int .i64 t, .slice A n ca, .slice B m cb], .agg #[.int .i64 i, .int .i64 k, .int .i64 f, .int .i64 t, .slice A' n' ca', .slice B' m' cb']] w fun e w' => e = .returned (.bool true) ∧ Below w.heap.size w w' := by
  obtain rfl : n = n' := by rw [← h1.sn, ← h2.sn]
  obtain rfl : m = m' := by rw [← h1.ag.1, ← h2.ag.1]
  have m1 := fun u (hu : Below w.heap.size w u) => sames_any h1.sn (h1.sm.below hu).samps (h2.sm.below hu).samps (by rw [← h1.sn]; exact h1.sm.le) (by rw [← h2.sn]; exact h2.sm.le) h1.sm.max h2.sm.max
  have m2 := fun u (hu : Below w.heap.size w u) => same_any (h1.below hu).ag (h2.below hu).ag
  have M1 := Lib.hid m1
  have M2 := Lib.hid m2
  clear h1 h2 m1 m2
  go_enter Tryz.func16, Tryz.ntmps16
  go_wp2_with fail
  refine (M1.out _ (past (below_box _ _) (below_box _ _))).mono ?_
  rintro e w2 ⟨rfl, hb2⟩
  have HB2 := Lib.hid (past (past (below_box _ _) (below_box _ _)) hb2)
  have c0 := ((SgV.new w i k f t (.slice A n ca) (.slice B m cb) 25).below (below_box _ (.cells #[.int .i64 i, .int .i64 k, .int .i64 f, .int .i64 t, .slice A' n ca', .slice B' m cb'] 25))).below hb2
  have c1 := (SgV.new (w.alloc (.cells #[.int .i64 i, .int .i64 k, .int .i64 f, .int .i64 t, .slice A n ca, .slice B m cb] 25)) i k f t (.slice A' n ca') (.slice B' m cb') 25).below hb2
  have d0 := c0.c5
  have d1 := c1.c5
  have e1 : (w.alloc (.cells #[.int .i64 i, .int .i64 k, .int .i64 f, .int .i64 t, .slice A n ca, .slice B m cb] 25)).heap.size = w.heap.size + 1 := by simp
  rw [e1] at d1
  clear c0 c1 hb2 e1
  go_wp2_with fail
  refine (M2.out _ HB2.out).mono ?_
  rintro e w3 ⟨rfl, hb3⟩
  have HB3 := Lib.hid (past HB2.out hb3)
  clear hb3
  go_wp2
  go_ret
  exact ⟨rfl, HB3.out⟩


set_option maxHeartbeats 400000 in
theorem small3 (w : World) : Calls Tryz.prog 104 #[.int .i64 3] w fun e w' => e = .returned (.string ⟨#[51]⟩) ∧ w = w' := by
  go_enter Tryz.func104, Tryz.ntmps104
  go_wp2
  (try simp only [Exit.inBlock, Exit.then])
  go_ret
  exact ⟨rfl, rfl⟩
set_option maxHeartbeats 400000 in
theorem format3 (w : World) : Calls Tryz.prog 97 #[.int .i64 3, .int .i64 10] w fun e w' => e = .returned (.string ⟨#[51]⟩) ∧ w = w' := by
  have M := Lib.hid small3
  go_enter Tryz.func97, Tryz.ntmps97
  go_wp2_with fail
  refine (M.out _).mono ?_
  rintro e w2 ⟨rfl, rfl⟩
  go_wp2
  (try simp only [Exit.inBlock, Exit.then])
  go_ret
  exact ⟨rfl, rfl⟩
theorem itoa3 (w : World) : Calls Tryz.prog 77 #[.int .i64 3] w fun e w' => e = .returned (.string ⟨#[51]⟩) ∧ w = w' := by
  have M := Lib.hid format3
  go_enter Tryz.func77, Tryz.ntmps77
  go_wp2_with fail
  refine (M.out _).mono ?_
  rintro e w2 ⟨rfl, rfl⟩
  go_wp2
  go_ret
  exact ⟨rfl, rfl⟩
theorem stritoa3 (w : World) : Calls Tryz.prog 48 #[.int .i64 3] w fun e w' => e = .returned (.string ⟨#[51]⟩) ∧ w = w' := by
  have M := Lib.hid itoa3
  go_enter Tryz.func48, Tryz.ntmps48
  go_wp2_with fail
  refine (M.out _).mono ?_
  rintro e w2 ⟨rfl, rfl⟩
  go_wp2
  go_ret
  exact ⟨rfl, rfl⟩
theorem name3 (w : World) : Calls Tryz.prog 17 #[.int .i64 3] w fun e w' => e = .returned (.string ⟨#[115, 51]⟩) ∧ w = w' := by
  have M := Lib.hid stritoa3
  go_enter Tryz.func17, Tryz.ntmps17
  go_wp2_with fail
  refine (M.out _).mono ?_
  rintro e w2 ⟨rfl, rfl⟩
  go_wp2
  go_ret
  exact ⟨rfl, rfl⟩
theorem name0 (w : World) : Calls Tryz.prog 17 #[.int .i64 0] w fun e w' => e = .returned (.string ⟨#[]⟩) ∧ w = w' := by
  go_enter Tryz.func17, Tryz.ntmps17
  go_wp2
  (try simp only [Exit.inBlock, Exit.then])
  go_ret
  exact ⟨rfl, rfl⟩
end Go.Proofs.YtepancmkopifpaaGreatDoor
set_option maxRecDepth 100000
namespace Go.Proofs.YtepancmkopifpaaGreatDoor
open Go.RowKit
attribute [local go_sem ↓] Go.wp_at_zero Go.wp_at_succ
set_option linter.unusedVariables false

def s0 : Sg := ⟨3, 0, 0, 10, [(3, 5)], []⟩
theorem s0_may : s0.may := by decide
theorem s0_ok : s0.ok := ⟨by decide, by decide, by decide, by decide, fun x hx => by
  have : x = (3, 5) := by simpa [s0] using hx
  subst this
  decide, fun a ha => by simp [s0] at ha⟩
theorem s0_raw : Raw0 s0 := ⟨s0_may, rfl, fun x hx => by
  have : x = (3, 5) := by simpa [s0] using hx
  subst this
  decide⟩
theorem s0_file : IsFile s0.bytes s0 := tier0_file s0_may s0_ok rfl
theorem s0_six : 6 < s0.bytes.length ∧ s0.bytes.length ≤ 1336 := by
  refine ⟨?_, tier0_len s0_may s0_ok rfl⟩
  rw [bytes_len]
  unfold Sg.body
  simp only [List.length_append, List.length_cons, List.length_nil, bytesOf_cons]
  have := enc_ne s0.id.toNat
  omega
theorem s0_head : s0.bytes.getD 0 0 = 84 := rfl
theorem s0_wins : wins 1 s0.sm = [⟨0, 1, 5, 5, 5, 5, 5⟩] := by
  show wins 1 [(3, 5)] = _
  rw [wins_cons 1 (3, 5) [] (c := 0) rfl]
  simp only [List.take_nil, List.map_nil, List.drop_nil]
  rw [wins]
  rfl
theorem s0_roll : rollS [s0] 4 1 = (⟨4, 1, 0, 10, [], [⟨0, 1, 5, 5, 5, 5, 5⟩]⟩, 0) := by
  rw [roll_raw s0_raw (by omega)]
  unfold Sg.at_
  rw [s0_wins]
  rfl
theorem s0_cut : readS (s0.bytes.take (s0.bytes.length - 1)) = none :=
  readS_none (fun c hc => bytes_byte _ c (List.mem_of_mem_take hc)) (fun s => file_cut s0_file (by have := s0_six; omega))

theorem tput {A : Option Addr} {ca : Nat} {w : World} (h : SegAt w s0 A 1 ca none 0 0) (hw : Wid w) :
    Calls Tryz.prog 6 #[.agg #[.int .i64 3, .int .i64 0, .int .i64 0, .int .i64 10, .slice A 1 ca, .slice none 0 0]] w fun e w' => ∃ AV cap, e = .returned (.tuple #[.slice AV s0.bytes.length cap, .int .i64 0]) ∧ BRow w' AV s0.bytes.length cap s0.bytes ∧ Below w.heap.size w w' := by
  refine (putG_any h hw).mono ?_
  rintro e w' ⟨h1, hb⟩
  have h1' : (if s0.may then if s0.bytes.length ≤ 4000 then ∃ v, e = .returned (.tuple #[v, .int .i64 0]) ∧ w'.ownsRow w.heap.size 5 1 v s0.bytes.length (bytesV s0.bytes) else e = .returned (.tuple #[.slice none 0 0, .int .i64 8]) else e = .returned (.tuple #[.slice none 0 0, .int .i64 1])) := h1
  rw [if_pos s0_may, if_pos (by have := s0_six; omega)] at h1'
  obtain ⟨v, rfl, hown⟩ := h1'
  obtain ⟨AV, cap, rfl, hr, _⟩ := brow_of_own hown (bytes_byte _)
  exact ⟨AV, cap, rfl, hr, hb⟩
theorem tget {AV : Option Addr} {cap : Nat} {w : World} (h : BRow w AV s0.bytes.length cap s0.bytes) (hw : Wid w) :
    Calls Tryz.prog 8 #[.slice AV s0.bytes.length cap] w fun e w' => ∃ A n ca B m cb, e = .returned (.tuple #[.agg #[.int .i64 3, .int .i64 0, .int .i64 0, .int .i64 10, .slice A n ca, .slice B m cb], .int .i64 0]) ∧ SegAt w' s0 A n ca B m cb ∧ Below w.heap.size w w' := by
  refine (getG_any h hw).mono ?_
  rintro e w' ⟨h1, hb⟩
  rw [(readS_iff (bytes_byte _)).2 s0_file] at h1
  obtain ⟨A, n, ca, B, m, cb, he, hs⟩ := h1
  exact ⟨A, n, ca, B, m, cb, he, hs.at_, hb⟩
theorem tinfo {AV : Option Addr} {cap : Nat} {w : World} (h : BRow w AV s0.bytes.length cap s0.bytes) (hw : Wid w) :
    Calls Tryz.prog 10 #[.slice AV s0.bytes.length cap] w fun e w' => ∃ S : Int, e = .returned (.tuple #[.agg #[.int .i64 3, .int .i64 0, .int .i64 0, .int .i64 10, .int .u32 S], .int .i64 0]) ∧ Below w.heap.size w w' := by
  refine (infoG_any h hw).mono ?_
  rintro e w' ⟨h1, hb⟩
  rw [(readS_iff (bytes_byte _)).2 s0_file] at h1
  exact ⟨_, h1, hb⟩
theorem tcut {AV : Option Addr} {cap : Nat} {w : World} (h : BRow w AV s0.bytes.length cap s0.bytes) (hw : Wid w) :
    Calls Tryz.prog 8 #[.slice AV (s0.bytes.length - 1) cap] w fun e w' => e = .returned (.tuple #[.agg #[.int .i64 0, .int .i64 0, .int .i64 0, .int .i64 0, .slice none 0 0, .slice none 0 0], .int .i64 2]) ∧ Below w.heap.size w w' := by
  refine (getG_any (h.take (show s0.bytes.length - 1 ≤ s0.bytes.length by omega)) hw).mono ?_
  rintro e w' ⟨h1, hb⟩
  rw [s0_cut] at h1
  exact ⟨h1, hb⟩
theorem segs_one {w : World} {s : Sg} {A : Option Addr} {n ca : Nat} {B : Option Addr} {m cb : Nat} (h : SegAt w s A n ca B m cb) :
    Segs (w.alloc (.cells #[.int .i64 s.id, .int .i64 s.tier, .int .i64 s.fr, .int .i64 s.tz, .slice A n ca, .slice B m cb] 25)) w.heap.size 0 [s] := fun j hj => by
  have hj0 : j = 0 := by simpa using hj
  subst hj0
  have hv := SgV.new w s.id s.tier s.fr s.tz (.slice A n ca) (.slice B m cb) 25
  refine ⟨A, n, ca, B, m, cb, ?_⟩
  simp only [Nat.zero_mul, Nat.zero_add]
  exact ⟨hv.c0, hv.c1, hv.c2, hv.c3, hv.c4, hv.c5, h.below (below_box _ _)⟩
theorem troll {A : Option Addr} {ca : Nat} {w : World} (h : SegAt w s0 A 1 ca none 0 0) (hw : Wid w) :
    Calls Tryz.prog 12 #[.slice (some ⟨w.heap.size, 0, none⟩) 1 1, .int .i64 4, .int .i64 1] (w.alloc (.cells #[.int .i64 3, .int .i64 0, .int .i64 0, .int .i64 10, .slice A 1 ca, .slice none 0 0] 25)) fun e w' => ∃ B cb, e = .returned (.tuple #[.agg #[.int .i64 4, .int .i64 1, .int .i64 0, .int .i64 10, .slice none 0 0, .slice B 1 cb], .int .i64 0]) ∧ RowOf w' B 1 cb [⟨0, 1, 5, 5, 5, 5, 5⟩] ∧ Below w.heap.size w w' := by
  have hs : Segs (w.alloc (.cells #[.int .i64 3, .int .i64 0, .int .i64 0, .int .i64 10, .slice A 1 ca, .slice none 0 0] 25)) w.heap.size 0 [s0] := segs_one h
  have hw2 := hw.below (below_box w (.cells #[.int .i64 3, .int .i64 0, .int .i64 0, .int .i64 10, .slice A 1 ca, .slice none 0 0] 25))
  refine (rollG_any (L := 1) (c := 1) hs rfl (by omega) (Nat.le_refl _) (by omega) (by unfold In64; omega) (by unfold In64; omega) hw2 (fun _ _ _ u hu => rolled_raw (hs.below hu) rfl (Nat.le_refl _) (by omega) (by decide) (by
    have := s0_ok.2.2.2.2.1
    intro x hx
    exact this x (by simpa using hx)) (hw2.below hu))).mono ?_
  rintro e w' ⟨B, m, cb, he, hr, hb⟩
  rw [s0_roll] at he hr
  obtain rfl : 1 = m := hr.1
  exact ⟨B, cb, he, hr, past (below_box _ _) hb⟩
end Go.Proofs.YtepancmkopifpaaGreatDoor
set_option maxRecDepth 100000
namespace Go.Proofs.YtepancmkopifpaaGreatDoor
open Go.RowKit
attribute [local go_sem ↓] Go.wp_at_zero Go.wp_at_succ
set_option linter.unusedVariables false

/-- So from a world on. -/
def Later (w : World) (P : World → Prop) : Prop := ∀ u, Below w.heap.size w u → P u
theorem Later.on {w w' : World} {P : World → Prop} (h : Later w P) (hb : Below w.heap.size w w') : Later w' P := fun u hu => h u (past hb hu)
theorem Later.now {w : World} {P : World → Prop} (h : Later w P) : P w := h w (Below.refl _ _)
theorem lit_row (w : World) : Row (w.alloc (.cells #[.int .i64 3, .int .i64 5] 48)) (some ⟨w.heap.size, 0, none⟩) 1 [(3, 5)] := by
  have h := World.ownsRow_lit (size := 2) (e := 48) w #[.int .i64 3, .int .i64 5] 1 (Nat.le_refl w.heap.size) (by unfold maxLen; omega) rfl
  obtain ⟨A, cap, e, hr, _, _⟩ := row_of_own (l := [(3, 5)]) h s0_ok.2.2.2.2.1
  injection e with e1 e2 e3
  subst e1 e3
  exact hr
theorem start_seg (w : World) (o : Obj) : SegAt ((w.alloc (.cells #[.int .i64 3, .int .i64 5] 48)).alloc o) s0 (some ⟨w.heap.size, 0, none⟩) 1 1 none 0 0 :=
  ⟨(lit_row w).below (below_box _ _), rfl, rowOf_nil _, s0_ok⟩

set_option maxHeartbeats 1000000 in
theorem told_any (w : World) (hw : Wid w) : Calls Tryz.prog 5 #[] w fun e w' => e = .returned (.bool true) ∧ Below w.heap.size w w' := by
  obtain ⟨n, hn⟩ : ∃ n, s0.bytes.length = n := ⟨_, rfl⟩
  have h6 := s0_six
  rw [hn] at h6
  have MP : Hid (∀ u A ca, SegAt u s0 A 1 ca none 0 0 → Wid u → Calls Tryz.prog 6 #[.agg #[.int .i64 3, .int .i64 0, .int .i64 0, .int .i64 10, .slice A 1 ca, .slice none 0 0]] u fun e w' => ∃ AV cap, e = .returned (.tuple #[.slice AV n cap, .int .i64 0]) ∧ BRow w' AV n cap s0.bytes ∧ Below u.heap.size u w') := Lib.hid (fun u A ca h hw => by rw [← hn]; exact tput h hw)
  have MG : Hid (∀ u AV cap, BRow u AV n cap s0.bytes → Wid u → Calls Tryz.prog 8 #[.slice AV n cap] u fun e w' => ∃ A n ca B m cb, e = .returned (.tuple #[.agg #[.int .i64 3, .int .i64 0, .int .i64 0, .int .i64 10, .slice A n ca, .slice B m cb], .int .i64 0]) ∧ SegAt w' s0 A n ca B m cb ∧ Below u.heap.size u w') := Lib.hid (fun u AV cap h hw => by rw [← hn] at h ⊢; exact tget h hw)
  have MI : Hid (∀ u AV cap, BRow u AV n cap s0.bytes → Wid u → Calls Tryz.prog 10 #[.slice AV n cap] u fun e w' => ∃ S : Int, e = .returned (.tuple #[.agg #[.int .i64 3, .int .i64 0, .int .i64 0, .int .i64 10, .int .u32 S], .int .i64 0]) ∧ Below u.heap.size u w') := Lib.hid (fun u AV cap h hw => by rw [← hn] at h ⊢; exact tinfo h hw)
  have MC : Hid (∀ u AV cap, BRow u AV n cap s0.bytes → Wid u → Calls Tryz.prog 8 #[.slice AV (n - 1) cap] u fun e w' => e = .returned (.tuple #[.agg #[.int .i64 0, .int .i64 0, .int .i64 0, .int .i64 0, .slice none 0 0, .slice none 0 0], .int .i64 2]) ∧ Below u.heap.size u w') := Lib.hid (fun u AV cap h hw => by rw [← hn] at h ⊢; exact tcut h hw)
  have HH : Hid (∀ u AV cap, BRow u AV n cap s0.bytes → ∃ b off, AV = some ⟨b, off, none⟩ ∧ n ≤ cap ∧ ∀ u', Below u.heap.size u u' → u'.cell? ⟨b, off, none⟩ = some (.int .u8 84)) := Lib.hid (fun u AV cap h => by
    obtain ⟨b, off, e, hc⟩ := h.bytes.at_ (by have := h.len; omega)
    refine ⟨b, off, e, h.le, fun u' hu => ?_⟩
    have h0 := hc 0 (by have := h.len; omega)
    rw [s0_head, Nat.add_zero] at h0
    rw [hu.cell (World.block_lt_of_cell? u _ h0)]
    exact h0)
  have HW := Lib.hid hw
  have HN : Hid (s0.bytes.length = n) := Lib.hid hn
  clear hn hw
  have hi6 : (6 : Int) < (n : Int) := by omega
  have i0 : (0 : Int) < (n : Int) := by omega
  have i1 : IntKind.i64.wrap ((n : Int) - 1) = ((n - 1 : Nat) : Int) := by rw [IntKind.wrap_i64]; omega
  have i2 : max ((n - 1 : Nat) : Int) 0 = ((n - 1 : Nat) : Int) := by omega
  have H6 := Lib.hid h6
  clear h6
  go_enter Tryz.func5, Tryz.ntmps5
  go_upto_region 2 with fail
  have HT1 : Hid (Later ((w.alloc (.cells #[.int .i64 3, .int .i64 5] 48)).alloc (.cells #[.int .i64 3, .int .i64 0, .int .i64 0, .int .i64 10, .slice (some ⟨w.heap.size, 0, none⟩) 1 1, .slice none 0 0] 25)) fun u => SegAt u s0 (some ⟨w.heap.size, 0, none⟩) 1 1 none 0 0 ∧ SgV u (w.heap.size + 1) 3 0 0 10 (.slice (some ⟨w.heap.size, 0, none⟩) 1 1) (.slice none 0 0) ∧ Wid u ∧ Below w.heap.size w u) := Lib.hid (fun u hu => by
    have hb : Below w.heap.size w u := past (past (below_box _ _) (below_box _ _)) hu
    have hv := (SgV.new (w.alloc (.cells #[.int .i64 3, .int .i64 5] 48)) 3 0 0 10 (.slice (some ⟨w.heap.size, 0, none⟩) 1 1) (.slice none 0 0) 25).below hu
    have e : (w.alloc (.cells #[.int .i64 3, .int .i64 5] 48)).heap.size = w.heap.size + 1 := by simp
    rw [e] at hv
    exact ⟨(start_seg w _).below hu, hv, HW.out.below hb, hb⟩)
  generalize ((w.alloc (.cells #[.int .i64 3, .int .i64 5] 48)).alloc (.cells #[.int .i64 3, .int .i64 0, .int .i64 0, .int .i64 10, .slice (some ⟨w.heap.size, 0, none⟩) 1 1, .slice none 0 0] 25)) = w1 at *
  generalize w.heap.size + 1 = g1 at *
  obtain ⟨a0, a1, a2, a3, a4, a5, _⟩ := HT1.out.now.2.1
  go_wp2_with fail
  refine (MP.out _ _ _ HT1.out.now.1 HT1.out.now.2.2.1).mono ?_
  rintro e w2 ⟨AV, cap, rfl, hr, hb⟩
  have HT2 := Lib.hid (HT1.out.on hb)
  obtain ⟨bb, bo, rfl, hcap, hc0⟩ := HH.out _ _ _ hr
  have HR2 : Hid (Later w2 fun u => BRow u (some ⟨bb, bo, none⟩) n cap s0.bytes ∧ u.cell? ⟨bb, bo, none⟩ = some (.int .u8 84)) := Lib.hid (fun u hu => ⟨hr.below hu, hc0 u hu⟩)
  clear a0 a1 a2 a3 a4 a5 hr hb hc0 HT1 HH MP
  go_wp2_with fail
  refine (MG.out _ _ _ HR2.out.now.1 HT2.out.now.2.2.1).mono ?_
  rintro e w3 ⟨A3, n3, ca3, B3, m3, cb3, rfl, hs3, hb⟩
  go_upto_region 4 with fail
  have HT4 : Hid (Later (w3.alloc (.cells #[.int .i64 3, .int .i64 0, .int .i64 0, .int .i64 10, .slice A3 n3 ca3, .slice B3 m3 cb3] 25)) _) := Lib.hid ((HT2.out.on hb).on (below_box _ _))
  have HR4 : Hid (Later (w3.alloc (.cells #[.int .i64 3, .int .i64 0, .int .i64 0, .int .i64 10, .slice A3 n3 ca3, .slice B3 m3 cb3] 25)) _) := Lib.hid ((HR2.out.on hb).on (below_box _ _))
  have HX4 : Hid (Later (w3.alloc (.cells #[.int .i64 3, .int .i64 0, .int .i64 0, .int .i64 10, .slice A3 n3 ca3, .slice B3 m3 cb3] 25)) fun u => SegAt u s0 A3 n3 ca3 B3 m3 cb3 ∧ SgV u w3.heap.size 3 0 0 10 (.slice A3 n3 ca3) (.slice B3 m3 cb3)) := Lib.hid (fun u hu => ⟨(hs3.below (below_box _ _)).below hu, (SgV.new w3 3 0 0 10 _ _ 25).below hu⟩)
  clear hb hs3 HT2 HR2 MG
  generalize w3.alloc (.cells #[.int .i64 3, .int .i64 0, .int .i64 0, .int .i64 10, .slice A3 n3 ca3, .slice B3 m3 cb3] 25) = w4 at *
  generalize w3.heap.size = gx at *
  go_wp2_with fail
  refine (MI.out _ _ _ HR4.out.now.1 HT4.out.now.2.2.1).mono ?_
  rintro e w5 ⟨S, rfl, hb⟩
  go_upto_region 5 with fail
  have HT6 : Hid (Later (w5.alloc (.cells #[.int .i64 3, .int .i64 0, .int .i64 0, .int .i64 10, .int .u32 S] 38)) _) := Lib.hid ((HT4.out.on hb).on (below_box _ _))
  have HR6 : Hid (Later (w5.alloc (.cells #[.int .i64 3, .int .i64 0, .int .i64 0, .int .i64 10, .int .u32 S] 38)) _) := Lib.hid ((HR4.out.on hb).on (below_box _ _))
  have HX6 : Hid (Later (w5.alloc (.cells #[.int .i64 3, .int .i64 0, .int .i64 0, .int .i64 10, .int .u32 S] 38)) _) := Lib.hid ((HX4.out.on hb).on (below_box _ _))
  have HI6 : Hid (Later (w5.alloc (.cells #[.int .i64 3, .int .i64 0, .int .i64 0, .int .i64 10, .int .u32 S] 38)) fun u => IfV u w5.heap.size 3 0 0 10 S) := Lib.hid (fun u hu => (IfV.new w5 3 0 0 10 S 38).below hu)
  clear hb HT4 HR4 HX4 MI
  generalize w5.alloc (.cells #[.int .i64 3, .int .i64 0, .int .i64 0, .int .i64 10, .int .u32 S] 38) = w6 at *
  generalize w5.heap.size = gi at *
  obtain ⟨a0, a1, a2, a3, a4, a5, _⟩ := HT6.out.now.2.1
  go_wp2_with fail
  refine (troll HT6.out.now.1 HT6.out.now.2.2.1).mono ?_
  rintro e w7 ⟨B, cb, rfl, hr7, hb⟩
  clear a0 a1 a2 a3 a4 a5
  go_upto_region 6 with fail
  have HT8 : Hid (Later (w7.alloc (.cells #[.int .i64 4, .int .i64 1, .int .i64 0, .int .i64 10, .slice none 0 0, .slice B 1 cb] 25)) _) := Lib.hid ((HT6.out.on hb).on (below_box _ _))
  have HR8 : Hid (Later (w7.alloc (.cells #[.int .i64 4, .int .i64 1, .int .i64 0, .int .i64 10, .slice none 0 0, .slice B 1 cb] 25)) _) := Lib.hid ((HR6.out.on hb).on (below_box _ _))
  have HX8 : Hid (Later (w7.alloc (.cells #[.int .i64 4, .int .i64 1, .int .i64 0, .int .i64 10, .slice none 0 0, .slice B 1 cb] 25)) _) := Lib.hid ((HX6.out.on hb).on (below_box _ _))
  have HI8 : Hid (Later (w7.alloc (.cells #[.int .i64 4, .int .i64 1, .int .i64 0, .int .i64 10, .slice none 0 0, .slice B 1 cb] 25)) _) := Lib.hid ((HI6.out.on hb).on (below_box _ _))
  obtain ⟨rb, ro, rfl, hcell⟩ := hr7.2.1.2 (by decide)
  have HO8 : Hid (Later (w7.alloc (.cells #[.int .i64 4, .int .i64 1, .int .i64 0, .int .i64 10, .slice none 0 0, .slice (some ⟨rb, ro, none⟩) 1 cb] 25)) fun u => SgV u w7.heap.size 4 1 0 10 (.slice none 0 0) (.slice (some ⟨rb, ro, none⟩) 1 cb) ∧ u.cell? ⟨rb, ro + 2, none⟩ = some (.int .i64 5)) := Lib.hid (fun u hu => ⟨(SgV.new w7 4 1 0 10 _ _ 25).below hu, by
    have h0 := (((hcell 0 (by decide)).below (below_box _ _)).below hu).2.2.1
    rw [Nat.zero_mul, Nat.add_zero] at h0
    exact h0⟩)
  clear hb hr7 hcell HT6 HR6 HX6 HI6
  generalize w7.alloc (.cells #[.int .i64 4, .int .i64 1, .int .i64 0, .int .i64 10, .slice none 0 0, .slice (some ⟨rb, ro, none⟩) 1 cb] 25) = w8 at *
  generalize w7.heap.size = gr at *
  have hs1 := fun w => sliceB_hi (A := some ⟨bb, bo, none⟩) (n := n) (k := n - 1) (cap := cap) (by omega) w
  have kmx := fun ts t W => max2 ts t ((n - 1 : Nat) : Int) 0 W
  simp only [i2] at kmx
  go_wp2_with fail
  refine (MC.out _ _ _ HR8.out.now.1 HT8.out.now.2.2.1).mono ?_
  rintro e w9 ⟨rfl, hb⟩
  have HT9 := Lib.hid (HT8.out.on hb)
  have HR9 := Lib.hid (HR8.out.on hb)
  have HX9 := Lib.hid (HX8.out.on hb)
  have HI9 := Lib.hid (HI8.out.on hb)
  have HO9 := Lib.hid (HO8.out.on hb)
  clear hb HT8 HR8 HX8 HI8 HO8 MC hs1 kmx
  go_upto_region 7 with fail
  have hb : Below w9.heap.size w9 (w9.alloc (.cells #[.int .i64 0, .int .i64 0, .int .i64 0, .int .i64 0, .slice none 0 0, .slice none 0 0] 25)) := below_box _ _
  have HT10 := Lib.hid (HT9.out.on hb)
  have HR10 := Lib.hid (HR9.out.on hb)
  have HX10 := Lib.hid (HX9.out.on hb)
  have HI10 := Lib.hid (HI9.out.on hb)
  have HO10 := Lib.hid (HO9.out.on hb)
  clear hb HT9 HR9 HX9 HI9 HO9
  generalize w9.alloc (.cells #[.int .i64 0, .int .i64 0, .int .i64 0, .int .i64 0, .slice none 0 0, .slice none 0 0] 25) = w10 at *
  go_wp2_with fail
  refine (rollG_nil (by omega) (by unfold coarse; omega)).mono ?_
  rintro e w11 ⟨B9, m9, cb9, rfl, _, hb⟩
  simp only [Sg.zero]
  have HT11 := Lib.hid (HT10.out.on hb)
  have HR11 := Lib.hid (HR10.out.on hb)
  have HX11 := Lib.hid (HX10.out.on hb)
  have HI11 := Lib.hid (HI10.out.on hb)
  have HO11 := Lib.hid (HO10.out.on hb)
  clear hb HT10 HR10 HX10 HI10 HO10
  go_upto_region 8 with fail
  have hb : Below w11.heap.size w11 (w11.alloc (.cells #[.int .i64 0, .int .i64 0, .int .i64 0, .int .i64 0, .slice none 0 0, .slice B9 m9 cb9] 25)) := below_box _ _
  have HT12 := Lib.hid (HT11.out.on hb)
  have HR12 := Lib.hid (HR11.out.on hb)
  have HX12 := Lib.hid (HX11.out.on hb)
  have HI12 := Lib.hid (HI11.out.on hb)
  have HO12 := Lib.hid (HO11.out.on hb)
  clear hb HT11 HR11 HX11 HI11 HO11
  generalize w11.alloc (.cells #[.int .i64 0, .int .i64 0, .int .i64 0, .int .i64 0, .slice none 0 0, .slice B9 m9 cb9] 25) = w12 at *
  have q0 := HR12.out.now.2
  obtain ⟨x0, x1, x2, x3, x4, x5, _⟩ := HX12.out.now.2
  obtain ⟨a0, a1, a2, a3, a4, a5, _⟩ := HT12.out.now.2.1
  (try simp only [List.append])
  go_wp2_with fail
  refine (sameSeg_eq HX12.out.now.1 HT12.out.now.1).mono ?_
  rintro e w13 ⟨rfl, hb⟩
  have HI13 := Lib.hid (HI12.out.on hb)
  have HT13 := Lib.hid (HT12.out.on hb)
  have HO13 := Lib.hid (HO12.out.on hb)
  clear hb HT12 HO12 HI12 HX12 HR12 q0 x0 x1 x2 x3 x4 x5 a0 a1 a2 a3 a4 a5
  obtain ⟨f0, _, _, f3, _, _, _, _, _, _⟩ := HI13.out.now
  obtain ⟨r0, r1, r2, r3, r4, r5, _⟩ := HO13.out.now.1
  have r6 := HO13.out.now.2
  go_wp2_with fail
  refine (name3 _).mono ?_
  rintro e w14 ⟨rfl, rfl⟩
  go_wp2_with fail
  refine (name0 _).mono ?_
  rintro e w14 ⟨rfl, rfl⟩
  obtain ⟨a0, a1, a2, a3, a4, a5, _⟩ := HT13.out.now.2.1
  go_wp2_with fail
  have m1 := mayG_any HT13.out.now.1 HT13.out.now.2.2.1
  have em : decide (Sg.may ⟨3, 0, 0, 10, [(3, 5)], []⟩) = true := decide_eq_true s0_may
  rw [em] at m1
  refine m1.mono ?_
  rintro e w15 ⟨rfl, hb⟩
  have HT15 := Lib.hid (HT13.out.on hb)
  have HO15 := Lib.hid (HO13.out.on hb)
  clear hb HT13 HO13 m1 em HI13 f0 f3 r0 r1 r2 r3 r4 r5 r6 a0 a1 a2 a3 a4 a5
  go_wp2_with fail
  have m2 := mayG_any (i := 0) (k := 0) (f := 0) (t := 0) (sm := []) (ag := []) (n := 0) (m := 0) (ca := 0) (cb := 0) (A := none) (B := none) (w := w15) ⟨Row.none _, rfl, rowOf_nil _, ⟨by decide, by decide, by decide, by decide, fun s hs => by simp at hs, fun a ha => by simp at ha⟩⟩ HT15.out.now.2.2.1
  have em : decide (Sg.may ⟨0, 0, 0, 0, [], []⟩) = false := decide_eq_false (fun h => absurd h.1.1 (by decide))
  rw [em] at m2
  refine m2.mono ?_
  rintro e w16 ⟨rfl, hb⟩
  have HT16 := Lib.hid (HT15.out.on hb)
  have HO16 := Lib.hid (HO15.out.on hb)
  clear hb HT15 HO15 m2 em
  obtain ⟨a0, a1, a2, a3, a4, a5, _⟩ := HT16.out.now.2.1
  go_wp2_with fail
  refine (sameG_eq HT16.out.now.1 HT16.out.now.1).mono ?_
  rintro e w17 ⟨rfl, hb⟩
  have HT17 := Lib.hid (HT16.out.on hb)
  have HO17 := Lib.hid (HO16.out.on hb)
  clear hb HT16 HO16 a0 a1 a2 a3 a4 a5
  obtain ⟨a0, a1, a2, a3, a4, a5, _⟩ := HT17.out.now.2.1
  obtain ⟨r0, r1, r2, r3, r4, r5, _⟩ := HO17.out.now.1
  go_wp2_with fail
  refine (sameG_ne (by omega)).mono ?_
  rintro e w18 ⟨rfl, hb⟩
  have HB18 := Lib.hid (past HT17.out.now.2.2.2 hb)
  clear hb a0 a1 a2 a3 a4 a5 r0 r1 r2 r3 r4 r5 HT17 HO17
  go_wp2
  go_ret
  exact ⟨rfl, HB18.out⟩
end Go.Proofs.YtepancmkopifpaaGreatDoor
