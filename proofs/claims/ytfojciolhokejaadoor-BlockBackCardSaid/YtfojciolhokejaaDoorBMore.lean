/-
  Plain: which windows have bytes; what stands behind; what is cut off; steady samples. No program in it.
-/
import Derived.Test.YtfojciolhokejaaDoorBMath
namespace Go.Proofs.YtfojciolhokejaaDoor
set_option linter.unusedVariables false

theorem mult_lt {W a b : Int} (hW : 0 < W) (ha : a % W = 0) (hb : b % W = 0) : a < b ↔ a / W + 1 ≤ b / W := by
  have e1 : W * (a / W) = a := by have := Int.mul_ediv_add_emod a W; omega
  have e2 : W * (b / W) = b := by have := Int.mul_ediv_add_emod b W; omega
  constructor
  · intro h
    rw [← e1, ← e2] at h
    have := Int.lt_of_mul_lt_mul_left h (Int.le_of_lt hW)
    omega
  · intro h
    have h1 : a / W < b / W := by omega
    have := Int.mul_lt_mul_of_pos_left h1 hW
    rw [e1, e2] at this
    exact this
theorem flr_self {k t : Int} (hk : coarse k) (ht : Ag.begin_ t) : t = flr t k ↔ t % wid k = 0 := by
  have hw := wid_some (k := k) (by unfold coarse at hk; omega) (by unfold coarse at hk; omega)
  rw [flr_some (by omega) ht]
  omega
theorem alOn_iff {k : Int} (hk : coarse k) : ∀ (r : List Ag) (a : Ag), (∀ i, i < (a :: r).length → alAt (a :: r) k i) ↔ a.may ∧ a.fr % wid k = 0 ∧ AlOn (wid k) (a.fr / wid k + 1) r
  | [], a => by
    constructor
    · intro h
      have := h 0 (by simp)
      exact ⟨this.1, (flr_self hk this.1.1).1 this.2.1, trivial⟩
    · rintro ⟨h1, h2, _⟩ i hi
      obtain rfl : i = 0 := by simpa using hi
      exact ⟨h1, (flr_self hk h1.1).2 h2, fun h => absurd h (by omega)⟩
  | b :: r, a => by
    have hw := wid_some (k := k) (by unfold coarse at hk; omega) (by unfold coarse at hk; omega)
    have ih := alOn_iff hk r b
    constructor
    · intro h
      have h1 : ∀ i, i < (b :: r).length → alAt (b :: r) k i := by
        intro i hi
        have := h (i + 1) (by simpa using hi)
        refine ⟨this.1, this.2.1, fun hi0 => ?_⟩
        have h2 := this.2.2 (by omega)
        match i, hi0 with
        | i + 1, _ => simpa [agAt] using h2
      obtain ⟨g1, g2, g3⟩ := ih.1 h1
      have h0 := h 0 (by simp)
      have ha := (flr_self hk h0.1.1).1 h0.2.1
      have h2 : a.fr < b.fr := by simpa [agAt] using (h 1 (by simp)).2.2 (by omega)
      exact ⟨h0.1, ha, g1, g2, (mult_lt (by omega) ha g2).1 h2, g3⟩
    · rintro ⟨h1, h2, h3, h4, h5, h6⟩ i hi
      have h7 := ih.2 ⟨h3, h4, h6⟩
      match i with
      | 0 => exact ⟨h1, (flr_self hk h1.1).2 h2, fun h => absurd h (by omega)⟩
      | 1 =>
        have := h7 0 (by simp)
        refine ⟨this.1, this.2.1, fun _ => ?_⟩
        have := (mult_lt (by omega) h2 h4).2 h5
        simpa [agAt] using this
      | i + 2 =>
        have := h7 (i + 1) (by simpa using hi)
        refine ⟨this.1, this.2.1, fun _ => ?_⟩
        have h8 := this.2.2 (by omega)
        simpa [agAt] using h8
theorem align_iff {k : Int} (l : List Ag) (hk : coarse k) : Align l k ↔ AlOn (wid k) 0 l := by
  have hw := wid_some (k := k) (by unfold coarse at hk; omega) (by unfold coarse at hk; omega)
  match l with
  | [] => exact ⟨fun _ => trivial, fun _ => ⟨hk, fun i hi => by simp at hi⟩⟩
  | a :: r =>
    unfold Align
    rw [alOn_iff hk]
    constructor
    · rintro ⟨_, h1, h2, h3⟩
      exact ⟨h1, h2, Int.ediv_nonneg h1.1.1 (by omega), h3⟩
    · rintro ⟨h1, h2, _, h3⟩
      exact ⟨hk, h1, h2, h3⟩
/-- Which windows have bytes. -/
def AOk (k : Int) (l : List Ag) : Prop := Align l k ∧ l.length ≤ 64
theorem AOk.coarse {k : Int} {l : List Ag} (h : AOk k l) : Go.Proofs.YtfojciolhokejaaDoor.coarse k := h.1.1
theorem wid_coarse {k : Int} (hk : coarse k) : 0 < wid k ∧ wid k ≤ 1440 := by
  have hw := wid_some (k := k) (by unfold coarse at hk; omega) (by unfold coarse at hk; omega)
  omega
theorem getA_putA {k : Int} {l : List Ag} (h : AOk k l) (ho : AIn l) : getA (wid k) (putA (wid k) l) = some l :=
  getA_putA0 (wid_coarse h.1.1).1 ((align_iff l h.1.1).1 h.1) ho h.2
theorem putA_getA {k : Int} {b : List Nat} {l : List Ag} (hk : coarse k) (hb : ∀ c ∈ b, c < 256) (h : getA (wid k) b = some l) : putA (wid k) l = b ∧ AOk k l ∧ AIn l := by
  obtain ⟨h1, h2, h3, h4⟩ := putA_getA0 (wid_coarse hk).1 (wid_coarse hk).2 hb h
  exact ⟨h1, ⟨(align_iff l hk).2 h2, h4⟩, h3⟩
theorem putA_byte (W : Int) (l : List Ag) : ∀ c ∈ putA W l, c < 256 := bytesOf_byte _

/-- Bytes with something behind them. -/
theorem getB_behind {l : List (Int × Int)} (h : BOk l) (hi : BIn l) {x : List Nat} (hx : x ≠ []) : getB (putB l ++ x) = none := by
  have hr := (rise_iff l).1 h.1
  have hl := h.2
  match l, hr, hi, hl with
  | [], _, _, _ =>
    have e0 : putB [] = enc 0 := by simp [putB, sNums, bytesOf]
    rw [e0]
    unfold getB
    rw [rd_enc x (by decide)]
    simp only
    rw [if_neg hx]
  | y :: r, h, hi, hl =>
    obtain ⟨h0, h1, hr⟩ := h
    have hy := hi y (by simp)
    obtain ⟨z1, z2⟩ := zig_nat hy.2
    have hl' : r.length + 1 ≤ 64 := by simpa using hl
    have ht : ((y.1.toNat : Nat) : Int) = y.1 := by omega
    unfold getB putB
    simp only [sNums, bytesOf_cons, List.append_assoc]
    rw [rd_enc _ (by omega)]
    simp only
    rw [if_neg (by omega), rd_enc _ (by omega)]
    simp only
    rw [rd_enc _ z2]
    simp only
    rw [if_neg (by omega), ht, z1, zag_zig]
    rw [g_s r y.1 0 y.2 x hr (fun z hz => hi z (by simp [hz])) h0 (by omega) (by omega) h1]
    simp only
    rw [if_neg hx]
theorem getA_behind {k : Int} {l : List Ag} (h : AOk k l) (ho : AIn l) {x : List Nat} (hx : x ≠ []) : getA (wid k) (putA (wid k) l ++ x) = none := by
  have hl := h.2
  unfold getA putA
  rw [bytesOf_cons, List.append_assoc, rd_enc _ (by omega)]
  simp only
  rw [if_neg (by omega), ga_a (wid_coarse h.1.1).1 l 0 x ((align_iff l h.1.1).1 h.1) ho (by omega)]
  simp only
  rw [if_neg hx]
/-- Bytes that are cut off. -/
theorem getB_cut {l : List (Int × Int)} (h : BOk l) (hi : BIn l) {n : Nat} (hn : n < (putB l).length) : getB ((putB l).take n) = none := by
  cases e : getB ((putB l).take n) with
  | none => rfl
  | some l' =>
    obtain ⟨h1, h2, h3⟩ := putB_getB (fun c hc => putB_byte l c (List.mem_of_mem_take hc)) e
    have hx : (putB l).drop n ≠ [] := by
      intro e
      have := congrArg List.length e
      simp at this
      omega
    have h4 := getB_behind h2 h3 hx
    rw [h1, List.take_append_drop, getB_putB h hi] at h4
    cases h4

/-- Samples of one step and one value, from t on. -/
def steady (d v : Int) : Nat → Int → List (Int × Int)
  | 0, _ => []
  | n + 1, t => (t, v) :: steady d v n (t + d)
theorem enc_zero : enc 0 = [0] := enc_small (by decide)
theorem steady_on (d v : Int) : ∀ (n : Nat) (t : Int), (bytesOf (sOn t d v (steady d v n (t + d)))).length = 2 * n
  | 0, t => rfl
  | n + 1, t => by
    have ih := steady_on d v n (t + d)
    have e1 : t + d - t - d = 0 := by omega
    have e2 : t + d - t = d := by omega
    have e3 : w64 (v - v) = 0 := by unfold w64; omega
    simp only [steady, sOn, bytesOf_cons]
    rw [e1, e2, e3, show (zig 0).toNat = 0 from rfl, enc_zero]
    simp only [List.length_append, List.length_cons, List.length_nil]
    rw [ih]
    omega
theorem steady_len (d v : Int) : ∀ (n : Nat) (t : Int), (steady d v n t).length = n
  | 0, _ => rfl
  | n + 1, t => by simp [steady, steady_len d v n (t + d)]
theorem steady_bytes (d v : Int) (n : Nat) (t : Int) (hn : n ≤ 62) :
    (putB (steady d v (n + 2) t)).length = (putB (steady d v 2 t)).length + 2 * n := by
  have h := steady_on d v n (t + d)
  have e2 : t + d - t = d := by omega
  have c1 : (enc (n + 1 + 1)).length = 1 := by rw [enc_small (by omega)]; rfl
  have c2 : (enc (0 + 1 + 1)).length = 1 := by rw [enc_small (by omega)]; rfl
  simp only [putB, steady, sNums, sOn, bytesOf_cons, List.length_append, List.length_cons, List.length_nil, steady_len]
  rw [e2] at *
  rw [h, c1, c2]
  simp only [bytesOf, List.flatMap_nil, List.length_nil]
  omega
end Go.Proofs.YtfojciolhokejaaDoor
