/-
  Plain arithmetic of what windows come to: of samples (rawOn), of finer windows (downOn). No program in it.
-/
import Derived.Test.YtinplchaimejbaaTMath
namespace Go.Proofs.Ytinplchaimejbaa

/-- How many at the list's head lie below e. -/
def cnt (e : Int) : List (Int × Int) → Nat
  | [] => 0
  | s :: r => if s.1 < e then cnt e r + 1 else 0
theorem cnt_eq {e : Int} : ∀ {l : List (Int × Int)} {k : Nat}, (∀ i, i < k → tAt l i < e) → k ≤ l.length → (k < l.length → ¬ tAt l k < e) → cnt e l = k
  | [], k, _, h2, _ => by
    have : k = 0 := by simpa using h2
    rw [this]; rfl
  | s :: r, 0, _, _, h3 => by
    have h : ¬ s.1 < e := h3 (by simp)
    show (if s.1 < e then cnt e r + 1 else 0) = 0
    rw [if_neg h]
  | s :: r, k + 1, h1, h2, h3 => by
    have h : s.1 < e := h1 0 (by omega)
    show (if s.1 < e then cnt e r + 1 else 0) = k + 1
    rw [if_pos h, cnt_eq (k := k) (fun i hi => h1 (i + 1) (by omega)) (by simpa using h2) (fun hk => h3 (by simpa using hk))]
theorem cnt_le (e : Int) : ∀ l : List (Int × Int), cnt e l ≤ l.length
  | [] => Nat.le_refl _
  | s :: r => by
    have := cnt_le e r
    unfold cnt
    split
    · simpa using this
    · simp

/-- What Raw says of the rest behind the windows so far. -/
def rawOn (k : Int) (out : List Ag) : List (Int × Int) → List Ag × Int
  | [] => (out, 0)
  | s :: r =>
    if (all (flr s.1 k) (s.2 :: (r.take (cnt (flr s.1 k + wid k) r)).map (·.2))).2 = 0 then
      rawOn k (out ++ [(all (flr s.1 k) (s.2 :: (r.take (cnt (flr s.1 k + wid k) r)).map (·.2))).1]) (r.drop (cnt (flr s.1 k + wid k) r))
    else ([], (all (flr s.1 k) (s.2 :: (r.take (cnt (flr s.1 k + wid k) r)).map (·.2))).2)
termination_by l => l.length
decreasing_by
  simp only [List.length_drop, List.length_cons]
  omega
def raw (l : List (Int × Int)) (k : Int) : List Ag × Int := if coarse k ∧ Rise l then rawOn k [] l else ([], 1)
theorem rawOn_cons (k : Int) (out : List Ag) (s : Int × Int) (r : List (Int × Int)) {c : Nat} {x : Ag × Int} (hc : cnt (flr s.1 k + wid k) r = c) (hx : all (flr s.1 k) (s.2 :: (r.take c).map (·.2)) = x) :
    rawOn k out (s :: r) = if x.2 = 0 then rawOn k (out ++ [x.1]) (r.drop c) else ([], x.2) := by
  rw [rawOn, hc, hx]

def Ag.at_ (a : Ag) (k : Int) : Ag := ⟨flr a.fr k, a.cn, a.sm, a.mn, a.mx, a.fi, a.la⟩
/-- What Down says of the rest behind the windows so far. -/
def downOn (k : Int) (out : List Ag) : List Ag → List Ag × Int
  | [] => (out, 0)
  | a :: r =>
    if 0 < out.length ∧ (agAt out (out.length - 1)).fr = flr a.fr k then
      if (join (agAt out (out.length - 1)) (a.at_ k)).2 = 0 then downOn k (out.set (out.length - 1) (join (agAt out (out.length - 1)) (a.at_ k)).1) r
      else ([], (join (agAt out (out.length - 1)) (a.at_ k)).2)
    else downOn k (out ++ [a.at_ k]) r
def down (l : List Ag) (k : Int) : List Ag × Int := if coarse k ∧ Align l (k - 1) then downOn k [] l else ([], 1)

theorem coarse_wid {k : Int} (h : coarse k) : 5 ≤ wid k ∧ wid k ≤ 1440 := by
  unfold coarse at h
  unfold wid
  rw [if_neg (by omega)]
  split
  · omega
  split
  · omega
  split
  · omega
  · omega
theorem flr_le {t k : Int} (hk : coarse k) (ht : Ag.begin_ t) : 0 ≤ flr t k ∧ flr t k ≤ t ∧ t < flr t k + wid k := by
  have hw := coarse_wid hk
  rw [flr_some (by omega) ht]
  unfold Ag.begin_ at ht
  have h1 := Int.emod_nonneg t (show wid k ≠ 0 by omega)
  have h2 := Int.emod_lt_of_pos t (show 0 < wid k by omega)
  have h3 := emod_le (m := wid k) ht.1 (by omega)
  omega
theorem flr_begin {t k : Int} (hk : coarse k) (ht : Ag.begin_ t) : Ag.begin_ (flr t k) := by
  have := flr_le hk ht
  unfold Ag.begin_ at *
  omega
theorem rise_tail {s : Int × Int} {r : List (Int × Int)} (h : Rise (s :: r)) : Rise r := fun i hi => by
  have h1 := h (i + 1) (by simpa using hi)
  refine ⟨h1.1, fun h0 => ?_⟩
  have h2 := h1.2 (by omega)
  obtain ⟨j, rfl⟩ : ∃ j, i = j + 1 := ⟨i - 1, by omega⟩
  exact h2
theorem rise_drop : ∀ (c : Nat) {r : List (Int × Int)}, Rise r → Rise (r.drop c)
  | 0, _, h => h
  | _ + 1, [], h => h
  | c + 1, _ :: _, h => rise_drop c (rise_tail h)
theorem rise_head {s : Int × Int} {r : List (Int × Int)} (h : Rise (s :: r)) : Ag.begin_ s.1 := (h 0 (by simp)).1
theorem at_may {a : Ag} {k : Int} (hk : coarse k) (h : a.may) : (a.at_ k).may := ⟨flr_begin hk h.1, h.2⟩
theorem at_ok {a : Ag} {k : Int} (h : a.ok) : (a.at_ k).ok := by
  have hb := flr_bounds a.fr k
  exact ⟨by show In64 (flr a.fr k); unfold In64; omega, h.2⟩
end Go.Proofs.Ytinplchaimejbaa
