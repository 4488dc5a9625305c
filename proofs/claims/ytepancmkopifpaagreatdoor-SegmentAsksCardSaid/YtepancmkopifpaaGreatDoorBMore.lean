/-
  Plain: samples as bytes, and what bytes say; the two fit together. No program in it.
  Plain: which windows have bytes; what stands behind; what is cut off; steady samples. No program in it.
-/
import Derived.Test.YtepancmkopifpaaGreatDoorVZig
import Derived.Test.YtepancmkopifpaaGreatDoorTMath
namespace Go.Proofs.YtepancmkopifpaaGreatDoor
set_option linter.unusedVariables false

/-- Round 64 bits. -/
def w64 (x : Int) : Int := (x + 9223372036854775808) % 18446744073709551616 - 9223372036854775808
theorem w64_in (x : Int) : In64 (w64 x) := by unfold w64 In64; omega
theorem w64_id {x : Int} (h : In64 x) : w64 x = x := by unfold In64 at h; unfold w64; omega
theorem w64_back {v z : Int} (hz : In64 z) : w64 (w64 (v + z) - v) = z := by unfold In64 at hz; unfold w64; omega
theorem w64_on {v v' : Int} (hv : In64 v') : w64 (v + w64 (v' - v)) = v' := by unfold In64 at hv; unfold w64; omega

/-- A number at the beginning, and what stands behind it. -/
def rd (b : List Nat) : Option (Nat × List Nat) := (dec 0 0 b).map fun x => (x.1, b.drop x.2)
theorem rd_enc {n : Nat} (r : List Nat) (h : n < 18446744073709551616) : rd (enc n ++ r) = some (n, r) := by
  unfold rd
  rw [dec_enc0 n r h]
  simp
theorem rd_only {b r : List Nat} {n : Nat} (hb : ∀ c ∈ b, c < 256) (h : rd b = some (n, r)) : b = enc n ++ r ∧ n < 18446744073709551616 ∧ (∀ c ∈ r, c < 256) := by
  unfold rd at h
  obtain ⟨⟨v, m⟩, hd, e⟩ := Option.map_eq_some_iff.1 h
  simp only [Prod.mk.injEq] at e
  obtain ⟨rfl, rfl⟩ := e
  obtain ⟨n, e1, h1, h2, h3, h4, _⟩ := dec_only b 0 0 v m hb (by decide) hd
  simp only [Nat.pow_zero, Nat.mul_one, Nat.zero_add, Nat.sub_zero] at e1 h1 h4
  subst e1
  refine ⟨?_, h1, fun c hc => hb c (List.mem_of_mem_drop hc)⟩
  rw [← h4]
  exact (List.take_append_drop m b).symm
theorem rd_nil : rd [] = none := rfl

/-- The numbers of samples behind one at t, of value v, that came by so much of a step. -/
def sOn : Int → Int → Int → List (Int × Int) → List Nat
  | _, _, _, [] => []
  | t, s, v, x :: r => (zig (x.1 - t - s)).toNat :: (zig (w64 (x.2 - v))).toNat :: sOn x.1 (x.1 - t) x.2 r
def sNums : List (Int × Int) → List Nat
  | [] => [0]
  | x :: r => (r.length + 1) :: x.1.toNat :: (zig x.2).toNat :: sOn x.1 0 x.2 r
def bytesOf (l : List Nat) : List Nat := l.flatMap enc
theorem bytesOf_cons (n : Nat) (l : List Nat) : bytesOf (n :: l) = enc n ++ bytesOf l := rfl
/-- The bytes of samples. -/
def putB (l : List (Int × Int)) : List Nat := bytesOf (sNums l)
def BIn (l : List (Int × Int)) : Prop := ∀ s ∈ l, In64 s.1 ∧ In64 s.2

/-- So many samples behind one. -/
def gOn : Nat → Int → Int → Int → List Nat → Option (List (Int × Int) × List Nat)
  | 0, _, _, _, b => some ([], b)
  | n + 1, t, s, v, b =>
    match rd b with
    | none => none
    | some (a, b) => match rd b with
      | none => none
      | some (c, b) =>
        if 1 ≤ s + zag a ∧ t + (s + zag a) ≤ 1099511627776 then
          match gOn n (t + (s + zag a)) (s + zag a) (w64 (v + zag c)) b with
          | none => none
          | some (l, b) => some ((t + (s + zag a), w64 (v + zag c)) :: l, b)
        else none
/-- What bytes say. -/
def getB (b : List Nat) : Option (List (Int × Int)) :=
  match rd b with
  | none => none
  | some (0, b) => if b = [] then some [] else none
  | some (n + 1, b) => if 64 < n + 1 then none else match rd b with
    | none => none
    | some (t, b) => match rd b with
      | none => none
      | some (c, b) => if 1099511627776 < t then none else match gOn n (t : Int) 0 (zag c) b with
        | none => none
        | some (l, b) => if b = [] then some (((t : Int), zag c) :: l) else none

/-- From t on times rise. -/
def RiseOn : Int → List (Int × Int) → Prop
  | _, [] => True
  | t, x :: r => t < x.1 ∧ x.1 ≤ 1099511627776 ∧ RiseOn x.1 r
/-- What Rise says, gone for from the left. -/
def RiseL : List (Int × Int) → Prop
  | [] => True
  | x :: r => 0 ≤ x.1 ∧ x.1 ≤ 1099511627776 ∧ RiseOn x.1 r
theorem zig_nat {m : Int} (h : In64 m) : (((zig m).toNat : Nat) : Int) = zig m ∧ (zig m).toNat < 18446744073709551616 := by
  have := zig_range m h.1 h.2
  omega
theorem g_s : ∀ (l : List (Int × Int)) (t s v : Int) (b : List Nat), RiseOn t l → BIn l → 0 ≤ t → 0 ≤ s → s ≤ 1099511627776 → t ≤ 1099511627776 → gOn l.length t s v (bytesOf (sOn t s v l) ++ b) = some (l, b)
  | [], t, s, v, b, _, _, _, _, _, _ => rfl
  | x :: r, t, s, v, b, h, hi, h0, h1, h2, h3 => by
    obtain ⟨ha, hb, hr⟩ := h
    have hx := hi x (by simp)
    have hd : In64 (x.1 - t - s) := by unfold In64; omega
    obtain ⟨z1, z2⟩ := zig_nat hd
    obtain ⟨z3, z4⟩ := zig_nat (w64_in (x.2 - v))
    simp only [sOn, bytesOf_cons, List.length_cons, gOn, List.append_assoc]
    rw [rd_enc _ z2]
    simp only
    rw [rd_enc _ z4]
    simp only
    rw [z1, z3, zag_zig, zag_zig, w64_on hx.2]
    have e1 : s + (x.1 - t - s) = x.1 - t := by omega
    have e2 : t + (x.1 - t) = x.1 := by omega
    rw [e1, e2, if_pos (by omega), g_s r x.1 (x.1 - t) x.2 b hr (fun y hy => hi y (by simp [hy])) (by omega) (by omega) (by omega) hb]
theorem get_put {l : List (Int × Int)} (h : RiseL l) (hi : BIn l) (hl : l.length ≤ 64) : getB (putB l) = some l := by
  match l, h, hi, hl with
  | [], _, _, _ =>
    show getB (enc 0 ++ []) = _
    unfold getB
    rw [rd_enc [] (by decide)]
    rfl
  | x :: r, h, hi, hl =>
    obtain ⟨h0, h1, hr⟩ := h
    have hx := hi x (by simp)
    obtain ⟨z1, z2⟩ := zig_nat hx.2
    have hl' : r.length + 1 ≤ 64 := by simpa using hl
    have ht : ((x.1.toNat : Nat) : Int) = x.1 := by omega
    unfold getB putB
    simp only [sNums, bytesOf_cons]
    rw [rd_enc _ (by omega)]
    simp only
    rw [if_neg (by omega), rd_enc _ (by omega)]
    simp only
    rw [rd_enc _ z2]
    simp only
    rw [if_neg (by omega), ht, z1, zag_zig]
    have := g_s r x.1 0 x.2 [] hr (fun y hy => hi y (by simp [hy])) h0 (by omega) (by omega) h1
    rw [List.append_nil] at this
    rw [this]
    simp

theorem s_g : ∀ (n : Nat) (t s v : Int) (b : List Nat) (l : List (Int × Int)) (r : List Nat), (∀ c ∈ b, c < 256) → 0 ≤ t → 0 ≤ s → gOn n t s v b = some (l, r) →
    b = bytesOf (sOn t s v l) ++ r ∧ l.length = n ∧ RiseOn t l ∧ BIn l ∧ (∀ c ∈ r, c < 256)
  | 0, t, s, v, b, l, r, hb, _, _, h => by
    simp only [gOn, Option.some.injEq, Prod.mk.injEq] at h
    obtain ⟨rfl, rfl⟩ := h
    exact ⟨by simp [sOn, bytesOf], rfl, trivial, fun y hy => by simp at hy, hb⟩
  | n + 1, t, s, v, b, l, r, hb, h0, h1, h => by
    simp only [gOn] at h
    cases e1 : rd b with
    | none => rw [e1] at h; cases h
    | some y1 =>
      obtain ⟨a, b1⟩ := y1
      rw [e1] at h
      simp only at h
      obtain ⟨eb, ha, hb1⟩ := rd_only hb e1
      cases e2 : rd b1 with
      | none => rw [e2] at h; cases h
      | some y2 =>
        obtain ⟨c, b2⟩ := y2
        rw [e2] at h
        simp only at h
        obtain ⟨eb1, hc, hb2⟩ := rd_only hb1 e2
        split at h
        · next hok =>
          cases e3 : gOn n (t + (s + zag a)) (s + zag a) (w64 (v + zag c)) b2 with
          | none => rw [e3] at h; cases h
          | some y3 =>
            obtain ⟨l', b3⟩ := y3
            rw [e3] at h
            simp only [Option.some.injEq, Prod.mk.injEq] at h
            obtain ⟨rfl, rfl⟩ := h
            obtain ⟨f1, f2, f3, f4, f5⟩ := s_g n _ _ _ b2 l' b3 hb2 (by omega) (by omega) e3
            have hza := zag_range (a : Int) (by omega) (by omega)
            have hzc := zag_range (c : Int) (by omega) (by omega)
            refine ⟨?_, by simp [f2], ⟨by omega, hok.2, f3⟩, ?_, f5⟩
            · simp only [sOn, bytesOf_cons]
              have g1 : t + (s + zag ↑a) - t - s = zag a := by omega
              have g2 : t + (s + zag ↑a) - t = s + zag a := by omega
              rw [g1, g2, w64_back hzc, zig_zag _ (by omega), zig_zag _ (by omega), eb, eb1, f1]
              simp
            · intro y hy
              rw [List.mem_cons] at hy
              rcases hy with rfl | hy
              · refine ⟨?_, w64_in _⟩
                unfold In64
                simp only
                omega
              · exact f4 y hy
        · cases h
theorem put_get {b : List Nat} {l : List (Int × Int)} (hb : ∀ c ∈ b, c < 256) (h : getB b = some l) :
    putB l = b ∧ l.length ≤ 64 ∧ BIn l ∧ RiseL l := by
  unfold getB at h
  cases e0 : rd b with
  | none => rw [e0] at h; cases h
  | some y0 =>
    obtain ⟨n, b0⟩ := y0
    rw [e0] at h
    obtain ⟨eb, hn, hb0⟩ := rd_only hb e0
    match n with
    | 0 =>
      simp only at h
      split at h
      · next hz =>
        simp only [Option.some.injEq] at h
        subst h
        refine ⟨?_, by simp, fun y hy => by simp at hy, trivial⟩
        rw [eb, hz]
        rfl
      · cases h
    | n + 1 =>
      simp only at h
      split at h
      · cases h
      · next hn64 =>
        cases e1 : rd b0 with
        | none => rw [e1] at h; cases h
        | some y1 =>
          obtain ⟨t, b1⟩ := y1
          rw [e1] at h
          simp only at h
          obtain ⟨eb0, ht, hb1⟩ := rd_only hb0 e1
          cases e2 : rd b1 with
          | none => rw [e2] at h; cases h
          | some y2 =>
            obtain ⟨c, b2⟩ := y2
            rw [e2] at h
            simp only at h
            obtain ⟨eb1, hc, hb2⟩ := rd_only hb1 e2
            split at h
            · cases h
            · next htm =>
              cases e3 : gOn n (t : Int) 0 (zag c) b2 with
              | none => rw [e3] at h; cases h
              | some y3 =>
                obtain ⟨l', b3⟩ := y3
                rw [e3] at h
                simp only at h
                split at h
                · next hz =>
                  simp only [Option.some.injEq] at h
                  subst h
                  obtain ⟨f1, f2, f3, f4, f5⟩ := s_g n _ _ _ b2 l' b3 hb2 (by omega) (by omega) e3
                  have hzc := zag_range (c : Int) (by omega) (by omega)
                  refine ⟨?_, by simp; omega, ?_, by omega, by omega, f3⟩
                  · unfold putB
                    simp only [sNums, bytesOf_cons]
                    rw [zig_zag _ (by omega), f2, eb, eb0, eb1, f1, hz]
                    simp
                  · intro y hy
                    rw [List.mem_cons] at hy
                    rcases hy with rfl | hy
                    · refine ⟨?_, hzc⟩
                      unfold In64
                      simp only
                      omega
                    · exact f4 y hy
                · cases h

theorem riseOn_iff : ∀ (r : List (Int × Int)) (x : Int × Int), (∀ i, i < (x :: r).length → riseAt (x :: r) i) ↔ Ag.begin_ x.1 ∧ RiseOn x.1 r
  | [], x => by
    constructor
    · intro h
      exact ⟨(h 0 (by simp)).1, trivial⟩
    · intro h i hi
      obtain rfl : i = 0 := by simpa using hi
      exact ⟨h.1, fun h => absurd h (by omega)⟩
  | y :: r, x => by
    have ih := riseOn_iff r y
    constructor
    · intro h
      have h1 : ∀ i, i < (y :: r).length → riseAt (y :: r) i := by
        intro i hi
        have := h (i + 1) (by simpa using hi)
        refine ⟨this.1, fun hi0 => ?_⟩
        have h2 := this.2 (by omega)
        match i, hi0 with
        | i + 1, _ => simpa [tAt] using h2
      obtain ⟨hb, hr⟩ := ih.1 h1
      have h2 := (h 1 (by simp)).2 (by omega)
      refine ⟨(h 0 (by simp)).1, ?_, hb.2, hr⟩
      simpa [tAt] using h2
    · rintro ⟨hb, h1, h2, h3⟩ i hi
      have h4 := ih.2 ⟨⟨by have := hb.1; omega, h2⟩, h3⟩
      match i with
      | 0 => exact ⟨hb, fun h => absurd h (by omega)⟩
      | 1 =>
        refine ⟨(h4 0 (by simp)).1, fun _ => ?_⟩
        simpa [tAt] using h1
      | i + 2 =>
        have := h4 (i + 1) (by simpa using hi)
        refine ⟨this.1, fun _ => ?_⟩
        have h5 := this.2 (by omega)
        simpa [tAt] using h5
theorem rise_iff (l : List (Int × Int)) : Rise l ↔ RiseL l := by
  match l with
  | [] => exact ⟨fun _ => trivial, fun _ i hi => by simp at hi⟩
  | x :: r =>
    unfold Rise
    rw [riseOn_iff]
    unfold RiseL Ag.begin_
    constructor
    · rintro ⟨⟨a, b⟩, c⟩; exact ⟨a, b, c⟩
    · rintro ⟨a, b, c⟩; exact ⟨⟨a, b⟩, c⟩
/-- Which samples have bytes. -/
def BOk (l : List (Int × Int)) : Prop := Rise l ∧ l.length ≤ 64
theorem getB_putB {l : List (Int × Int)} (h : BOk l) (hi : BIn l) : getB (putB l) = some l := by
  exact get_put ((rise_iff l).1 h.1) hi h.2
theorem putB_getB {b : List Nat} {l : List (Int × Int)} (hb : ∀ c ∈ b, c < 256) (h : getB b = some l) : putB l = b ∧ BOk l ∧ BIn l := by
  obtain ⟨h1, h2, h3, h4⟩ := put_get hb h
  exact ⟨h1, ⟨(rise_iff l).2 h4, h2⟩, h3⟩
theorem bytesOf_byte (l : List Nat) : ∀ c ∈ bytesOf l, c < 256 := by
  intro c hc
  obtain ⟨n, _, h⟩ := List.mem_flatMap.1 hc
  exact enc_byte n c h
theorem putB_byte (l : List (Int × Int)) : ∀ c ∈ putB l, c < 256 := bytesOf_byte _

/-- The numbers of windows of width W, the next one's least place p. -/
def aOne (W p : Int) (a : Ag) : List Nat :=
  (a.fr / W - p).toNat :: (a.cn - 1).toNat :: (zig a.mn).toNat :: (if 1 < a.cn then [(a.mx - a.mn).toNat, (zig a.sm).toNat, (a.fi - a.mn).toNat, (a.la - a.mn).toNat] else [])
def aOn (W : Int) : Int → List Ag → List Nat
  | _, [] => []
  | p, a :: r => aOne W p a ++ aOn W (a.fr / W + 1) r
/-- The bytes of windows. -/
def putA (W : Int) (l : List Ag) : List Nat := bytesOf (l.length :: aOn W 0 l)
/-- One window. -/
def gaOne (W p : Int) (b : List Nat) : Option (Ag × List Nat) :=
  match rd b with
  | none => none
  | some (f, b) => match rd b with
    | none => none
    | some (c, b) => match rd b with
      | none => none
      | some (m, b) =>
        if 1099511627776 < (p + f) * W ∨ 1099511627776 < (c : Int) + 1 then none else
        if c = 0 then some (⟨(p + f) * W, 1, zag m, zag m, zag m, zag m, zag m⟩, b) else
        match rd b with
        | none => none
        | some (x, b) => match rd b with
          | none => none
          | some (s, b) => match rd b with
            | none => none
            | some (i, b) => match rd b with
              | none => none
              | some (j, b) => if 9223372036854775807 < zag m + x ∨ x < i ∨ x < j then none else some (⟨(p + f) * W, (c : Int) + 1, zag s, zag m, zag m + x, zag m + i, zag m + j⟩, b)
def gaOn (W : Int) : Nat → Int → List Nat → Option (List Ag × List Nat)
  | 0, _, b => some ([], b)
  | n + 1, p, b => match gaOne W p b with
    | none => none
    | some (a, b) => match gaOn W n (a.fr / W + 1) b with
      | none => none
      | some (l, b) => some (a :: l, b)
/-- What bytes say of windows. -/
def getA (W : Int) (b : List Nat) : Option (List Ag) :=
  match rd b with
  | none => none
  | some (n, b) => if 64 < n then none else match gaOn W n 0 b with
    | none => none
    | some (l, b) => if b = [] then some l else none
def AlOn (W : Int) : Int → List Ag → Prop
  | _, [] => True
  | p, a :: r => a.may ∧ a.fr % W = 0 ∧ p ≤ a.fr / W ∧ AlOn W (a.fr / W + 1) r
def AIn (l : List Ag) : Prop := ∀ a ∈ l, a.ok

theorem gaOne_aOne {W p : Int} {a : Ag} (b : List Nat) (hW : 0 < W) (hp : 0 ≤ p) (hm : a.may) (ho : a.ok) (hf : a.fr % W = 0) (hq : p ≤ a.fr / W) : gaOne W p (bytesOf (aOne W p a) ++ b) = some (a, b) := by
  obtain ⟨fr, cn, sm, mn, mx, fi, la⟩ := a
  unfold Ag.may Ag.begin_ Ag.count Ag.hold Ag.alike at hm
  unfold Ag.ok at ho
  simp only at hm ho hf hq
  obtain ⟨o0, o1, o2, o3, o4, o5, o6⟩ := ho
  obtain ⟨z1, z2⟩ := zig_nat o3
  obtain ⟨z3, z4⟩ := zig_nat o2
  have hfr : fr / W * W = fr := by have := Int.mul_ediv_add_emod fr W; rw [hf] at this; rw [Int.mul_comm]; omega
  have hle : fr / W ≤ fr := Int.ediv_le_self _ hm.1.1
  unfold In64 at o0 o1 o2 o3 o4 o5 o6
  have n1 : (((fr / W - p).toNat : Nat) : Int) = fr / W - p := by omega
  have n2 : (((cn - 1).toNat : Nat) : Int) = cn - 1 := by omega
  unfold aOne
  simp only [bytesOf_cons, List.append_assoc]
  unfold gaOne
  rw [rd_enc _ (by omega)]
  simp only
  rw [rd_enc _ (by omega)]
  simp only
  rw [rd_enc _ z2]
  simp only
  have e1 : (p + (fr / W - p)) * W = fr := by rw [show p + (fr / W - p) = fr / W by omega]; exact hfr
  have e2 : cn - 1 + 1 = cn := by omega
  rw [n1, n2, z1, e1, e2, zag_zig, if_neg (by omega)]
  by_cases h1 : 1 < cn
  · rw [if_pos h1, if_neg (by omega)]
    simp only [bytesOf_cons, List.append_assoc]
    rw [rd_enc _ (by omega)]
    simp only
    rw [rd_enc _ z4]
    simp only
    rw [rd_enc _ (by omega)]
    simp only
    rw [rd_enc _ (by omega)]
    simp only
    have n3 : (((mx - mn).toNat : Nat) : Int) = mx - mn := by omega
    have n4 : (((fi - mn).toNat : Nat) : Int) = fi - mn := by omega
    have n5 : (((la - mn).toNat : Nat) : Int) = la - mn := by omega
    rw [n3, n4, n5, z3, zag_zig, if_neg (by omega), show mn + (mx - mn) = mx by omega, show mn + (fi - mn) = fi by omega, show mn + (la - mn) = la by omega]
    rfl
  · rw [if_neg h1, if_pos (by omega)]
    obtain rfl : cn = 1 := by omega
    obtain ⟨_, _, _, h⟩ := hm
    rcases h with h | ⟨h1, h2, h3, h4⟩
    · omega
    · subst h1
      subst h2
      subst h3
      subst h4
      rfl
theorem ga_a {W : Int} (hW : 0 < W) : ∀ (l : List Ag) (p : Int) (b : List Nat), AlOn W p l → AIn l → 0 ≤ p → gaOn W l.length p (bytesOf (aOn W p l) ++ b) = some (l, b)
  | [], _, _, _, _, _ => rfl
  | a :: r, p, b, h, ho, hp => by
    obtain ⟨h1, h2, h3, h4⟩ := h
    have e : bytesOf (aOn W p (a :: r)) ++ b = bytesOf (aOne W p a) ++ (bytesOf (aOn W (a.fr / W + 1) r) ++ b) := by simp [aOn, bytesOf]
    rw [e, List.length_cons, gaOn, gaOne_aOne _ hW hp h1 (ho a (by simp)) h2 h3]
    simp only
    rw [ga_a hW r (a.fr / W + 1) b h4 (fun y hy => ho y (by simp [hy])) (by omega)]
theorem getA_putA0 {W : Int} {l : List Ag} (hW : 0 < W) (h : AlOn W 0 l) (ho : AIn l) (hl : l.length ≤ 64) : getA W (putA W l) = some l := by
  unfold getA putA
  rw [bytesOf_cons, rd_enc _ (by omega)]
  simp only
  rw [if_neg (by omega)]
  have := ga_a hW l 0 [] h ho (by omega)
  rw [List.append_nil] at this
  rw [this]
  simp
theorem aOne_gaOne {W p : Int} {b r : List Nat} {a : Ag} (hW : 0 < W) (hW2 : W ≤ 1440) (hp : 0 ≤ p) (hb : ∀ c ∈ b, c < 256) (h : gaOne W p b = some (a, r)) :
    b = bytesOf (aOne W p a) ++ r ∧ a.may ∧ a.ok ∧ a.fr % W = 0 ∧ p ≤ a.fr / W ∧ (∀ c ∈ r, c < 256) := by
  unfold gaOne at h
  cases e1 : rd b with
  | none => rw [e1] at h; cases h
  | some y1 =>
  obtain ⟨f, b1⟩ := y1
  rw [e1] at h
  simp only at h
  obtain ⟨eb, hf, hb1⟩ := rd_only hb e1
  cases e2 : rd b1 with
  | none => rw [e2] at h; cases h
  | some y2 =>
  obtain ⟨c, b2⟩ := y2
  rw [e2] at h
  simp only at h
  obtain ⟨eb1, hc, hb2⟩ := rd_only hb1 e2
  cases e3 : rd b2 with
  | none => rw [e3] at h; cases h
  | some y3 =>
  obtain ⟨m, b3⟩ := y3
  rw [e3] at h
  simp only at h
  obtain ⟨eb2, hm, hb3⟩ := rd_only hb2 e3
  have hzm := zag_range (m : Int) (by omega) (by omega)
  split at h
  · cases h
  next hbd =>
  have hfr0 : 0 ≤ (p + (f : Int)) * W := Int.mul_nonneg (by omega) (by omega)
  have hdv : (p + (f : Int)) * W / W = p + f := Int.mul_ediv_cancel _ (by omega)
  have hmd : (p + (f : Int)) * W % W = 0 := Int.mul_emod_left _ _
  split at h
  · next hc0 =>
    simp only [Option.some.injEq, Prod.mk.injEq] at h
    obtain ⟨rfl, rfl⟩ := h
    subst hc0
    refine ⟨?_, ?_, ?_, hmd, by simp only; rw [hdv]; omega, hb3⟩
    · unfold aOne
      simp only
      rw [if_neg (by omega), hdv, zig_zag _ (by omega), show p + (f : Int) - p = f by omega, eb, eb1, eb2]
      simp [bytesOf]
    · exact ⟨⟨hfr0, by simp only; omega⟩, ⟨by simp only; omega, by simp only; omega⟩, ⟨⟨Int.le_refl _, Int.le_refl _, Int.le_refl _⟩, Int.le_refl _, Int.le_refl _⟩, .inr ⟨rfl, rfl, rfl, rfl⟩⟩
    · unfold Ag.ok In64
      simp only
      omega
  next hc0 =>
  cases e4 : rd b3 with
  | none => rw [e4] at h; cases h
  | some y4 =>
  obtain ⟨x, b4⟩ := y4
  rw [e4] at h
  simp only at h
  obtain ⟨eb3, hx, hb4⟩ := rd_only hb3 e4
  cases e5 : rd b4 with
  | none => rw [e5] at h; cases h
  | some y5 =>
  obtain ⟨s, b5⟩ := y5
  rw [e5] at h
  simp only at h
  obtain ⟨eb4, hs, hb5⟩ := rd_only hb4 e5
  cases e6 : rd b5 with
  | none => rw [e6] at h; cases h
  | some y6 =>
  obtain ⟨i, b6⟩ := y6
  rw [e6] at h
  simp only at h
  obtain ⟨eb5, hi, hb6⟩ := rd_only hb5 e6
  cases e7 : rd b6 with
  | none => rw [e7] at h; cases h
  | some y7 =>
  obtain ⟨j, b7⟩ := y7
  rw [e7] at h
  simp only at h
  obtain ⟨eb6, hj, hb7⟩ := rd_only hb6 e7
  have hzs := zag_range (s : Int) (by omega) (by omega)
  split at h
  · cases h
  next hlim =>
  simp only [Option.some.injEq, Prod.mk.injEq] at h
  obtain ⟨rfl, rfl⟩ := h
  refine ⟨?_, ?_, ?_, hmd, by simp only; rw [hdv]; omega, hb7⟩
  · unfold aOne
    simp only
    rw [if_pos (by omega), hdv, zig_zag _ (by omega), zig_zag _ (by omega), show p + (f : Int) - p = f by omega, show (c : Int) + 1 - 1 = c by omega, show zag m + (x : Int) - zag m = x by omega, show zag m + (i : Int) - zag m = i by omega, show zag m + (j : Int) - zag m = j by omega, eb, eb1, eb2, eb3, eb4, eb5, eb6]
    simp [bytesOf]
  · unfold Ag.may Ag.begin_ Ag.count Ag.hold Ag.alike
    simp only
    omega
  · unfold Ag.ok In64
    simp only
    omega
theorem a_ga {W : Int} (hW : 0 < W) (hW2 : W ≤ 1440) : ∀ (n : Nat) (p : Int) (b : List Nat) (l : List Ag) (r : List Nat), (∀ c ∈ b, c < 256) → 0 ≤ p → gaOn W n p b = some (l, r) →
    b = bytesOf (aOn W p l) ++ r ∧ l.length = n ∧ AlOn W p l ∧ AIn l ∧ (∀ c ∈ r, c < 256)
  | 0, p, b, l, r, hb, _, h => by
    simp only [gaOn, Option.some.injEq, Prod.mk.injEq] at h
    obtain ⟨rfl, rfl⟩ := h
    exact ⟨by simp [aOn, bytesOf], rfl, trivial, fun y hy => by simp at hy, hb⟩
  | n + 1, p, b, l, r, hb, hp, h => by
    rw [gaOn] at h
    cases e1 : gaOne W p b with
    | none => rw [e1] at h; cases h
    | some y1 =>
    obtain ⟨a, b1⟩ := y1
    rw [e1] at h
    simp only at h
    obtain ⟨f1, f2, f3, f4, f5, f6⟩ := aOne_gaOne hW hW2 hp hb e1
    cases e2 : gaOn W n (a.fr / W + 1) b1 with
    | none => rw [e2] at h; cases h
    | some y2 =>
    obtain ⟨l', b2⟩ := y2
    rw [e2] at h
    simp only [Option.some.injEq, Prod.mk.injEq] at h
    obtain ⟨rfl, rfl⟩ := h
    obtain ⟨g1, g2, g3, g4, g5⟩ := a_ga hW hW2 n _ b1 l' b2 f6 (by omega) e2
    refine ⟨?_, by simp [g2], ⟨f2, f4, f5, g3⟩, ?_, g5⟩
    · rw [f1, g1]
      simp [aOn, bytesOf]
    · intro y hy
      rw [List.mem_cons] at hy
      rcases hy with rfl | hy
      · exact f3
      · exact g4 y hy
theorem putA_getA0 {W : Int} {b : List Nat} {l : List Ag} (hW : 0 < W) (hW2 : W ≤ 1440) (hb : ∀ c ∈ b, c < 256) (h : getA W b = some l) : putA W l = b ∧ AlOn W 0 l ∧ AIn l ∧ l.length ≤ 64 := by
  unfold getA at h
  cases e0 : rd b with
  | none => rw [e0] at h; cases h
  | some y0 =>
  obtain ⟨n, b0⟩ := y0
  rw [e0] at h
  simp only at h
  obtain ⟨eb, hn, hb0⟩ := rd_only hb e0
  split at h
  · cases h
  next hn64 =>
  cases e1 : gaOn W n 0 b0 with
  | none => rw [e1] at h; cases h
  | some y1 =>
  obtain ⟨l', b1⟩ := y1
  rw [e1] at h
  simp only at h
  split at h
  · next hz =>
    simp only [Option.some.injEq] at h
    subst h
    obtain ⟨g1, g2, g3, g4, g5⟩ := a_ga hW hW2 n 0 b0 l' b1 hb0 (by omega) e1
    refine ⟨?_, g3, g4, by omega⟩
    unfold putA
    rw [bytesOf_cons, g2, eb, g1, hz]
    simp
  · cases h
end Go.Proofs.YtepancmkopifpaaGreatDoor
namespace Go.Proofs.YtepancmkopifpaaGreatDoor
set_option linter.unusedVariables false

theorem mult_lt {W a b : Int} (hW : 0 < W) (ha : a % W = 0) (hb : b % W = 0) : a < b ↔ a / W + 1 ≤ b / W := by
  have e1 : W * (a / W) = a := by have := Int.mul_ediv_add_emod a W; omega
  have e2 : W * (b / W) = b := by have := Int.mul_ediv_add_emod b W; omega
  constructor
  · intro h
    rw [← e1, ← e2] at h
    have := Int.lt_of_mul_lt_mul_left h (Int.le_of_lt hW)
    omega
  · intro h
    have h1 : a / W < b / W := by omega
    have := Int.mul_lt_mul_of_pos_left h1 hW
    rw [e1, e2] at this
    exact this
theorem flr_self {k t : Int} (hk : coarse k) (ht : Ag.begin_ t) : t = flr t k ↔ t % wid k = 0 := by
  have hw := wid_some (k := k) (by unfold coarse at hk; omega) (by unfold coarse at hk; omega)
  rw [flr_some (by omega) ht]
  omega
theorem alOn_iff {k : Int} (hk : coarse k) : ∀ (r : List Ag) (a : Ag), (∀ i, i < (a :: r).length → alAt (a :: r) k i) ↔ a.may ∧ a.fr % wid k = 0 ∧ AlOn (wid k) (a.fr / wid k + 1) r
  | [], a => by
    constructor
    · intro h
      have := h 0 (by simp)
      exact ⟨this.1, (flr_self hk this.1.1).1 this.2.1, trivial⟩
    · rintro ⟨h1, h2, _⟩ i hi
      obtain rfl : i = 0 := by simpa using hi
      exact ⟨h1, (flr_self hk h1.1).2 h2, fun h => absurd h (by omega)⟩
  | b :: r, a => by
    have hw := wid_some (k := k) (by unfold coarse at hk; omega) (by unfold coarse at hk; omega)
    have ih := alOn_iff hk r b
    constructor
    · intro h
      have h1 : ∀ i, i < (b :: r).length → alAt (b :: r) k i := by
        intro i hi
        have := h (i + 1) (by simpa using hi)
        refine ⟨this.1, this.2.1, fun hi0 => ?_⟩
        have h2 := this.2.2 (by omega)
        match i, hi0 with
        | i + 1, _ => simpa [agAt] using h2
      obtain ⟨g1, g2, g3⟩ := ih.1 h1
      have h0 := h 0 (by simp)
      have ha := (flr_self hk h0.1.1).1 h0.2.1
      have h2 : a.fr < b.fr := by simpa [agAt] using (h 1 (by simp)).2.2 (by omega)
      exact ⟨h0.1, ha, g1, g2, (mult_lt (by omega) ha g2).1 h2, g3⟩
    · rintro ⟨h1, h2, h3, h4, h5, h6⟩ i hi
      have h7 := ih.2 ⟨h3, h4, h6⟩
      match i with
      | 0 => exact ⟨h1, (flr_self hk h1.1).2 h2, fun h => absurd h (by omega)⟩
      | 1 =>
        have := h7 0 (by simp)
        refine ⟨this.1, this.2.1, fun _ => ?_⟩
        have := (mult_lt (by omega) h2 h4).2 h5
        simpa [agAt] using this
      | i + 2 =>
        have := h7 (i + 1) (by simpa using hi)
        refine ⟨this.1, this.2.1, fun _ => ?_⟩
        have h8 := this.2.2 (by omega)
        simpa [agAt] using h8
theorem align_iff {k : Int} (l : List Ag) (hk : coarse k) : Align l k ↔ AlOn (wid k) 0 l := by
  have hw := wid_some (k := k) (by unfold coarse at hk; omega) (by unfold coarse at hk; omega)
  match l with
  | [] => exact ⟨fun _ => trivial, fun _ => ⟨hk, fun i hi => by simp at hi⟩⟩
  | a :: r =>
    unfold Align
    rw [alOn_iff hk]
    constructor
    · rintro ⟨_, h1, h2, h3⟩
      exact ⟨h1, h2, Int.ediv_nonneg h1.1.1 (by omega), h3⟩
    · rintro ⟨h1, h2, _, h3⟩
      exact ⟨hk, h1, h2, h3⟩
/-- Which windows have bytes. -/
def AOk (k : Int) (l : List Ag) : Prop := Align l k ∧ l.length ≤ 64
theorem AOk.coarse {k : Int} {l : List Ag} (h : AOk k l) : Go.Proofs.YtepancmkopifpaaGreatDoor.coarse k := h.1.1
theorem wid_coarse {k : Int} (hk : coarse k) : 0 < wid k ∧ wid k ≤ 1440 := by
  have hw := wid_some (k := k) (by unfold coarse at hk; omega) (by unfold coarse at hk; omega)
  omega
theorem getA_putA {k : Int} {l : List Ag} (h : AOk k l) (ho : AIn l) : getA (wid k) (putA (wid k) l) = some l :=
  getA_putA0 (wid_coarse h.1.1).1 ((align_iff l h.1.1).1 h.1) ho h.2
theorem putA_getA {k : Int} {b : List Nat} {l : List Ag} (hk : coarse k) (hb : ∀ c ∈ b, c < 256) (h : getA (wid k) b = some l) : putA (wid k) l = b ∧ AOk k l ∧ AIn l := by
  obtain ⟨h1, h2, h3, h4⟩ := putA_getA0 (wid_coarse hk).1 (wid_coarse hk).2 hb h
  exact ⟨h1, ⟨(align_iff l hk).2 h2, h4⟩, h3⟩
theorem putA_byte (W : Int) (l : List Ag) : ∀ c ∈ putA W l, c < 256 := bytesOf_byte _

/-- Bytes with something behind them. -/
theorem getB_behind {l : List (Int × Int)} (h : BOk l) (hi : BIn l) {x : List Nat} (hx : x ≠ []) : getB (putB l ++ x) = none := by
  have hr := (rise_iff l).1 h.1
  have hl := h.2
  match l, hr, hi, hl with
  | [], _, _, _ =>
    have e0 : putB [] = enc 0 := by simp [putB, sNums, bytesOf]
    rw [e0]
    unfold getB
    rw [rd_enc x (by decide)]
    simp only
    rw [if_neg hx]
  | y :: r, h, hi, hl =>
    obtain ⟨h0, h1, hr⟩ := h
    have hy := hi y (by simp)
    obtain ⟨z1, z2⟩ := zig_nat hy.2
    have hl' : r.length + 1 ≤ 64 := by simpa using hl
    have ht : ((y.1.toNat : Nat) : Int) = y.1 := by omega
    unfold getB putB
    simp only [sNums, bytesOf_cons, List.append_assoc]
    rw [rd_enc _ (by omega)]
    simp only
    rw [if_neg (by omega), rd_enc _ (by omega)]
    simp only
    rw [rd_enc _ z2]
    simp only
    rw [if_neg (by omega), ht, z1, zag_zig]
    rw [g_s r y.1 0 y.2 x hr (fun z hz => hi z (by simp [hz])) h0 (by omega) (by omega) h1]
    simp only
    rw [if_neg hx]
theorem getA_behind {k : Int} {l : List Ag} (h : AOk k l) (ho : AIn l) {x : List Nat} (hx : x ≠ []) : getA (wid k) (putA (wid k) l ++ x) = none := by
  have hl := h.2
  unfold getA putA
  rw [bytesOf_cons, List.append_assoc, rd_enc _ (by omega)]
  simp only
  rw [if_neg (by omega), ga_a (wid_coarse h.1.1).1 l 0 x ((align_iff l h.1.1).1 h.1) ho (by omega)]
  simp only
  rw [if_neg hx]
/-- Bytes that are cut off. -/
theorem getB_cut {l : List (Int × Int)} (h : BOk l) (hi : BIn l) {n : Nat} (hn : n < (putB l).length) : getB ((putB l).take n) = none := by
  cases e : getB ((putB l).take n) with
  | none => rfl
  | some l' =>
    obtain ⟨h1, h2, h3⟩ := putB_getB (fun c hc => putB_byte l c (List.mem_of_mem_take hc)) e
    have hx : (putB l).drop n ≠ [] := by
      intro e
      have := congrArg List.length e
      simp at this
      omega
    have h4 := getB_behind h2 h3 hx
    rw [h1, List.take_append_drop, getB_putB h hi] at h4
    cases h4

/-- Samples of one step and one value, from t on. -/
def steady (d v : Int) : Nat → Int → List (Int × Int)
  | 0, _ => []
  | n + 1, t => (t, v) :: steady d v n (t + d)
theorem enc_zero : enc 0 = [0] := enc_small (by decide)
theorem steady_on (d v : Int) : ∀ (n : Nat) (t : Int), (bytesOf (sOn t d v (steady d v n (t + d)))).length = 2 * n
  | 0, t => rfl
  | n + 1, t => by
    have ih := steady_on d v n (t + d)
    have e1 : t + d - t - d = 0 := by omega
    have e2 : t + d - t = d := by omega
    have e3 : w64 (v - v) = 0 := by unfold w64; omega
    simp only [steady, sOn, bytesOf_cons]
    rw [e1, e2, e3, show (zig 0).toNat = 0 from rfl, enc_zero]
    simp only [List.length_append, List.length_cons, List.length_nil]
    rw [ih]
    omega
theorem steady_len (d v : Int) : ∀ (n : Nat) (t : Int), (steady d v n t).length = n
  | 0, _ => rfl
  | n + 1, t => by simp [steady, steady_len d v n (t + d)]
theorem steady_bytes (d v : Int) (n : Nat) (t : Int) (hn : n ≤ 62) :
    (putB (steady d v (n + 2) t)).length = (putB (steady d v 2 t)).length + 2 * n := by
  have h := steady_on d v n (t + d)
  have e2 : t + d - t = d := by omega
  have c1 : (enc (n + 1 + 1)).length = 1 := by rw [enc_small (by omega)]; rfl
  have c2 : (enc (0 + 1 + 1)).length = 1 := by rw [enc_small (by omega)]; rfl
  simp only [putB, steady, sNums, sOn, bytesOf_cons, List.length_append, List.length_cons, List.length_nil, steady_len]
  rw [e2] at *
  rw [h, c1, c2]
  simp only [bytesOf, List.flatMap_nil, List.length_nil]
  omega
end Go.Proofs.YtepancmkopifpaaGreatDoor
