/-
  Plain: heads that samples were put into, in any order; heads that are sealed now and then; full ones. No program in it.
-/
import Derived.Test.YtinplchaimejbaaHMath
namespace Go.Proofs.Ytinplchaimejbaa
set_option linter.unusedVariables false

/-- What Put says of a head that may be, and a time that may be. -/
theorem put_cases {h : Hd} {s : Int × Int} (hm : h.may) (ht : inT s.1) :
    (s.1 < h.sl ∧ putH h s = (h, 6)) ∨ (h.sl ≤ s.1 ∧ has s.1 h.l ∧ putH h s = (h, 7)) ∨ (h.sl ≤ s.1 ∧ ¬ has s.1 h.l ∧ 64 ≤ h.l.length ∧ putH h s = (h, 8)) ∨
    (h.sl ≤ s.1 ∧ ¬ has s.1 h.l ∧ h.l.length < 64 ∧ putH h s = (⟨h.sl, ins s h.l⟩, 0)) := by
  unfold putH
  rw [if_neg (show ¬ (¬ h.may ∨ ¬ inT s.1) from fun e => e.elim (fun e => e hm) (fun e => e ht))]
  by_cases h1 : s.1 < h.sl
  · exact .inl ⟨h1, if_pos h1⟩
  · rw [if_neg h1]
    by_cases h2 : has s.1 h.l
    · exact .inr (.inl ⟨by omega, h2, if_pos h2⟩)
    · rw [if_neg h2]
      by_cases h3 : 64 ≤ h.l.length
      · exact .inr (.inr (.inl ⟨by omega, h2, h3, if_pos h3⟩))
      · exact .inr (.inr (.inr ⟨by omega, h2, by omega, if_neg h3⟩))
/-- A head that these samples made, each with the value that goes with its time. -/
structure Made (f : Int → Int) (S : List (Int × Int)) (h : Hd) : Prop where
  may : h.may
  sl : h.sl = 0
  mem : ∀ x, x ∈ h.l ↔ x ∈ S
  val : ∀ x ∈ S, x.2 = f x.1
  len : h.l.length ≤ S.length
theorem Made.none (f : Int → Int) : Made f [] Hd.none := ⟨none_may, rfl, fun x => by simp [Hd.none], fun x hx => by simp at hx, by simp [Hd.none]⟩
theorem Made.put {f : Int → Int} {S : List (Int × Int)} {h : Hd} (hm : Made f S h) {t : Int} (ht : inT t) (hS : S.length < 64) : Made f (S ++ [(t, f t)]) (putH h (t, f t)).1 := by
  have hmay := put_may (s := (t, f t)) hm.may
  have hl := hm.len
  have hval : ∀ x ∈ S ++ [(t, f t)], x.2 = f x.1 := fun x hx => by
    rw [List.mem_append, List.mem_singleton] at hx
    rcases hx with hx | rfl
    · exact hm.val x hx
    · rfl
  rcases put_cases (s := (t, f t)) hm.may ht with ⟨h1, e⟩ | ⟨h1, h2, e⟩ | ⟨h1, h2, h3, e⟩ | ⟨h1, h2, h3, e⟩
  · have := hm.sl
    unfold inT at ht
    simp only at h1
    omega
  · rw [e] at hmay ⊢
    refine ⟨hmay, hm.sl, fun x => ?_, hval, by rw [List.length_append]; simp only; omega⟩
    simp only [List.mem_append, List.mem_singleton]
    rw [hm.mem x]
    constructor
    · exact .inl
    · rintro (hx | rfl)
      · exact hx
      · obtain ⟨y, hy, e2⟩ := h2
        have hy2 := (hm.mem y).1 hy
        have hv := hm.val y hy2
        have : y = (t, f t) := by
          obtain ⟨y1, y2⟩ := y
          simp only at e2 hv
          rw [hv, e2]
        rw [← this]
        exact hy2
  · omega
  · rw [e] at hmay ⊢
    refine ⟨hmay, hm.sl, fun x => ?_, hval, by simp only [ins_len, List.length_append, List.length_singleton]; omega⟩
    simp only [List.mem_append, List.mem_singleton]
    rw [mem_ins, hm.mem x]
    exact Or.comm
theorem Made.same {f : Int → Int} {S S' : List (Int × Int)} {a b : Hd} (ha : Made f S a) (hb : Made f S' b) (h : ∀ x, x ∈ S ↔ x ∈ S') : a = b := by
  have e : a.l = b.l := pair_uniq ((rise_pair _).1 ha.may.2.2.1).2 ((rise_pair _).1 hb.may.2.2.1).2 (fun x => by rw [ha.mem, hb.mem, h])
  have e2 : a.sl = b.sl := by rw [ha.sl, hb.sl]
  obtain ⟨x, y⟩ := a
  obtain ⟨u, v⟩ := b
  simp only at e e2
  rw [e, e2]

/-- A head, and what came out of it. -/
structure Played (h : Hd) (out : List (Int × Int)) (n : Nat) : Prop where
  may : h.may
  pair : out.Pairwise (fun a b => a.1 < b.1)
  below : ∀ x ∈ out, x.1 < h.sl
  count : n = out.length + h.l.length
theorem Played.none : Played Hd.none [] 0 := ⟨none_may, List.Pairwise.nil, fun x hx => by simp at hx, rfl⟩
theorem Played.put {h : Hd} {out : List (Int × Int)} {n : Nat} (hp : Played h out n) (s : Int × Int) : Played (putH h s).1 out (if (putH h s).2 = 0 then n + 1 else n) := by
  have hmay := put_may (s := s) hp.may
  have hc := hp.count
  by_cases ht : inT s.1
  · rcases put_cases hp.may ht with ⟨h1, e⟩ | ⟨h1, h2, e⟩ | ⟨h1, h2, h3, e⟩ | ⟨h1, h2, h3, e⟩
    · rw [e]
      exact hp
    · rw [e]
      exact hp
    · rw [e]
      exact hp
    · rw [e] at hmay ⊢
      refine ⟨hmay, hp.pair, hp.below, ?_⟩
      simp only [if_true, ins_len]
      omega
  · have e : putH h s = (h, 1) := by unfold putH; rw [if_pos (.inr ht)]
    rw [e]
    exact hp
theorem last_mem {l : List (Int × Int)} (h : l ≠ []) : l.getD (l.length - 1) (0, 0) ∈ l := by
  have hl : 0 < l.length := List.length_pos_iff.2 h
  rw [List.getD_eq_getElem?_getD, List.getElem?_eq_getElem (by omega)]
  exact List.getElem_mem _
theorem last_le {l : List (Int × Int)} (h : l.Pairwise (fun a b => a.1 < b.1)) : ∀ x ∈ l, x.1 ≤ lastT l := by
  intro x hx
  obtain ⟨i, hi, rfl⟩ := List.mem_iff_getElem.1 hx
  unfold lastT
  rw [List.getD_eq_getElem?_getD, List.getElem?_eq_getElem (by omega)]
  rcases Nat.lt_or_ge i (l.length - 1) with hlt | hge
  · exact Int.le_of_lt (List.pairwise_iff_getElem.1 h i (l.length - 1) hi (by omega) hlt)
  · have e : i = l.length - 1 := by omega
    subst e
    exact Int.le_refl _
theorem Played.seal_ {h : Hd} {out : List (Int × Int)} {n : Nat} (hp : Played h out n) : Played (sealH h).1 (out ++ (sealH h).2.1) n := by
  have hmay := seal_may hp.may
  have hc := hp.count
  unfold sealH at hmay ⊢
  rw [if_neg (by simpa using hp.may)] at hmay ⊢
  by_cases he : h.l = []
  · rw [if_pos he]
    simp only [List.append_nil]
    exact hp
  · rw [if_neg he] at hmay ⊢
    have hpr := ((rise_pair _).1 hp.may.2.2.1).2
    have hb := hp.may.2.2.2.2
    refine ⟨hmay, List.pairwise_append.2 ⟨hp.pair, hpr, fun a ha b hb2 => ?_⟩, fun x hx => ?_, by simp only [List.length_append, List.length_nil]; omega⟩
    · have h1 := hp.below a ha
      have h2 := (hb b hb2).1
      omega
    · simp only [List.mem_append] at hx ⊢
      have hL := last_le hpr
      rcases hx with hx | hx
      · have h1 := hp.below x hx
        have h2 := (hb _ (last_mem he)).1
        unfold lastT
        omega
      · have := hL x hx
        omega
/-- What Seal says of a head that may be. -/
theorem seal_cases {h : Hd} (hm : h.may) : (h.l = [] ∧ sealH h = (h, [], 0, 0, 9)) ∨ (h.l ≠ [] ∧ sealH h = (⟨lastT h.l + 1, []⟩, h.l, h.sl, lastT h.l + 1, 0)) := by
  unfold sealH
  rw [if_neg (by simpa using hm)]
  by_cases he : h.l = []
  · exact .inl ⟨he, if_pos he⟩
  · exact .inr ⟨he, if_neg he⟩
/-- Samples whose times rise are laid behind one another. -/
theorem cnt_all {e : Int} : ∀ {l : List (Int × Int)}, (∀ x ∈ l, x.1 < e) → cnt e l = l.length
  | [], _ => rfl
  | x :: r, h => by
    have ih := cnt_all (l := r) (fun y hy => h y (by simp [hy]))
    show (if x.1 < e then cnt e r + 1 else 0) = _
    rw [if_pos (h x (by simp)), ih]
    rfl
theorem ins_last {s : Int × Int} {l : List (Int × Int)} (h : ∀ x ∈ l, x.1 < s.1) : ins s l = l ++ [s] := by
  unfold ins
  rw [cnt_all h]
  simp
end Go.Proofs.Ytinplchaimejbaa
