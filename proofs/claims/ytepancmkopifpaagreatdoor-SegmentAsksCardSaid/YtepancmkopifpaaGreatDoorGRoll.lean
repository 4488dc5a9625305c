/-
  Plain arithmetic of windows of samples of values up to a billion: what they are, gone for sample by sample; from fine to coarse by steps or at once. No program in it.
  Plain: what segments are rolled up to; a segment of small samples, tier by tier. No program in it.
-/
import Derived.Test.YtepancmkopifpaaGreatDoorTMath
import Derived.Test.YtepancmkopifpaaGreatDoorGRead
namespace Go.Proofs.YtepancmkopifpaaGreatDoor

/-- The windows of the samples, nothing beyond 64 bits. -/
def wins (k : Int) : List (Int × Int) → List Ag
  | [] => []
  | s :: r => Ag.of (flr s.1 k) (s.2 :: (r.take (cnt (flr s.1 k + wid k) r)).map (·.2)) :: wins k (r.drop (cnt (flr s.1 k + wid k) r))
termination_by l => l.length
decreasing_by
  simp only [List.length_drop, List.length_cons]
  omega
theorem wins_cons (k : Int) (s : Int × Int) (r : List (Int × Int)) {c : Nat} (hc : cnt (flr s.1 k + wid k) r = c) : wins k (s :: r) = Ag.of (flr s.1 k) (s.2 :: (r.take c).map (·.2)) :: wins k (r.drop c) := by
  rw [wins, hc]

def SmallL (l : List (Int × Int)) : Prop := ∀ s ∈ l, -1000000000 < s.2 ∧ s.2 < 1000000000
theorem cnt_take {e : Int} : ∀ {r : List (Int × Int)}, ∀ s ∈ r.take (cnt e r), s.1 < e
  | [], s, h => by simp at h
  | x :: r, s, h => by
    unfold cnt at h
    split at h
    · next hx =>
      rw [List.take_succ_cons, List.mem_cons] at h
      rcases h with rfl | h
      · exact hx
      · exact cnt_take s h
    · simp at h
theorem cnt_drop {e : Int} : ∀ {r : List (Int × Int)} {s : Int × Int} {r' : List (Int × Int)}, r.drop (cnt e r) = s :: r' → ¬ s.1 < e
  | [], s, r', h => by simp at h
  | x :: r, s, r', h => by
    unfold cnt at h
    split at h
    · rw [List.drop_succ_cons] at h
      exact cnt_drop h
    · next hx =>
      rw [List.drop_zero] at h
      injection h with h1 h2
      subst h1
      exact hx
theorem rise_lt : ∀ {r : List (Int × Int)} {s : Int × Int}, Rise (s :: r) → ∀ x ∈ r, s.1 < x.1 ∧ Ag.begin_ x.1
  | [], s, _, x, hx => by simp at hx
  | y :: r, s, h, x, hx => by
    have h1 : s.1 < y.1 := (h 1 (by simp)).2 (by omega)
    rw [List.mem_cons] at hx
    rcases hx with rfl | hx
    · exact ⟨h1, rise_head (rise_tail h)⟩
    · have h2 := rise_lt (rise_tail h) x hx
      exact ⟨by omega, h2.2⟩
theorem coarse_cases {k : Int} (h : coarse k) : k = 1 ∧ wid k = 5 ∨ k = 2 ∧ wid k = 60 ∨ k = 3 ∧ wid k = 1440 := by
  unfold coarse at h
  rcases (show k = 1 ∨ k = 2 ∨ k = 3 by omega) with rfl | rfl | rfl
  · exact .inl ⟨rfl, by decide⟩
  · exact .inr (.inl ⟨rfl, by decide⟩)
  · exact .inr (.inr ⟨rfl, by decide⟩)
theorem flr_same {s t k : Int} (hk : coarse k) (hs : Ag.begin_ s) (ht : Ag.begin_ t) (h1 : s ≤ t) (h2 : t < flr s k + wid k) : flr t k = flr s k := by
  have hw := coarse_wid hk
  rw [flr_some (by omega) hs] at h2 ⊢
  rw [flr_some (by omega) ht]
  rcases coarse_cases hk with ⟨_, e⟩ | ⟨_, e⟩ | ⟨_, e⟩ <;> rw [e] at h2 ⊢ <;> omega
theorem flr_above {s t k : Int} (hk : coarse k) (hs : Ag.begin_ s) (ht : Ag.begin_ t) (h2 : ¬ t < flr s k + wid k) : flr s k < flr t k := by
  have hw := coarse_wid hk
  rw [flr_some (by omega) hs] at h2 ⊢
  rw [flr_some (by omega) ht]
  rcases coarse_cases hk with ⟨_, e⟩ | ⟨_, e⟩ | ⟨_, e⟩ <;> rw [e] at h2 ⊢ <;> omega
theorem flr_own {s k : Int} (hk : coarse k) (hs : Ag.begin_ s) : flr (flr s k) k = flr s k := by
  have hw := coarse_wid hk
  rw [flr_some (by omega) (flr_begin hk hs), flr_some (by omega) hs]
  rcases coarse_cases hk with ⟨_, e⟩ | ⟨_, e⟩ | ⟨_, e⟩ <;> rw [e] <;> omega
theorem flr_nest {s k : Int} (hk : coarse k) (hk1 : coarse (k - 1)) (hs : Ag.begin_ s) : flr (flr s (k - 1)) k = flr s k := by
  have hw := coarse_wid hk
  have hw1 := coarse_wid hk1
  rw [flr_some (by omega) (flr_begin hk1 hs), flr_some (k := k) (by omega) hs, flr_some (k := k - 1) (by omega) hs]
  unfold coarse at hk1
  rcases coarse_cases hk with ⟨h, e⟩ | ⟨h, e⟩ | ⟨h, e⟩
  · omega
  · subst h
    rw [show wid (2 - 1) = 5 by decide, show wid 2 = 60 by decide]
    omega
  · subst h
    rw [show wid (3 - 1) = 60 by decide, show wid 3 = 1440 by decide]
    omega

theorem both_assoc (a b c : Ag) : (a.both b).both c = a.both (b.both c) := by
  unfold Ag.both
  simp only [Ag.mk.injEq, true_and, and_true]
  exact ⟨Int.add_assoc _ _ _, Int.add_assoc _ _ _, Int.min_assoc _ _ _, Int.max_assoc _ _ _⟩

/-- One window more, or joined to the last. -/
def put (F : Int) (out : List Ag) (a : Ag) : List Ag :=
  if 0 < out.length ∧ (agAt out (out.length - 1)).fr = F then out.set (out.length - 1) ((agAt out (out.length - 1)).both a) else out ++ [a]
theorem put_put {F : Int} {out : List Ag} {a : Ag} (ha : a.fr = F) (b : Ag) : put F (put F out a) b = put F out (a.both b) := by
  unfold put
  by_cases h : 0 < out.length ∧ (agAt out (out.length - 1)).fr = F
  · have e : agAt (out.set (out.length - 1) ((agAt out (out.length - 1)).both a)) (out.length - 1) = (agAt out (out.length - 1)).both a := by
      unfold agAt
      simp [List.getD_eq_getElem?_getD, show out.length - 1 < out.length by omega]
    rw [if_pos h, if_pos h, List.length_set, e, if_pos ⟨h.1, h.2⟩, List.set_set, both_assoc]
  · have e : agAt (out ++ [a]) ((out ++ [a]).length - 1) = a := by
      unfold agAt
      simp [List.getD_eq_getElem?_getD]
    rw [if_neg h, if_neg h, e, if_pos ⟨by simp, ha⟩]
    simp
theorem put_new {F : Int} {out : List Ag} {a : Ag} (h : ¬ (0 < out.length ∧ (agAt out (out.length - 1)).fr = F)) : put F out a = out ++ [a] := if_neg h

def foldS (k : Int) (out : List Ag) : List (Int × Int) → List Ag
  | [] => out
  | s :: r => foldS k (put (flr s.1 k) out (Ag.one s.2 (flr s.1 k))) r
theorem foldS_append (k : Int) : ∀ (x : List (Int × Int)) (out : List Ag) (y : List (Int × Int)), foldS k out (x ++ y) = foldS k (foldS k out x) y
  | [], _, _ => rfl
  | _ :: x, _, y => foldS_append k x _ y
theorem foldS_same (k F : Int) (out : List Ag) : ∀ (r : List (Int × Int)) (a : Ag), a.fr = F → (∀ s ∈ r, flr s.1 k = F) → foldS k (put F out a) r = put F out (a.with (r.map (·.2)))
  | [], a, _, _ => by rw [List.map_nil, with_nil]; rfl
  | s :: r, a, ha, h => by
    have hs := h s (by simp)
    show foldS k (put (flr s.1 k) (put F out a) (Ag.one s.2 (flr s.1 k))) r = _
    rw [hs, put_put ha, foldS_same k F out r (a.both (Ag.one s.2 F)) ha (fun x hx => h x (by simp [hx])), with_cons]
    rfl
theorem foldS_window {k : Int} {s : Int × Int} {r : List (Int × Int)} (out : List Ag) (hk : coarse k) (hr : Rise (s :: r)) {c : Nat} (hc : cnt (flr s.1 k + wid k) r = c) :
    foldS k out (s :: r) = foldS k (put (flr s.1 k) out (Ag.of (flr s.1 k) (s.2 :: (r.take c).map (·.2)))) (r.drop c) := by
  have e : s :: r = (s :: r.take c) ++ r.drop c := by rw [List.cons_append, List.take_append_drop]
  have h := foldS_same k (flr s.1 k) out (r.take c) (Ag.one s.2 (flr s.1 k)) rfl (fun x hx => by
    have hx1 := rise_lt hr x (List.mem_of_mem_take hx)
    rw [← hc] at hx
    exact flr_same hk (rise_head hr) hx1.2 (by omega) (cnt_take x hx))
  rw [e, foldS_append]
  show foldS k (foldS k (put (flr s.1 k) out (Ag.one s.2 (flr s.1 k))) (r.take c)) (r.drop c) = _
  rw [h]
  rfl

theorem agAt_snoc (out : List Ag) (a : Ag) : agAt (out ++ [a]) ((out ++ [a]).length - 1) = a := by
  unfold agAt
  simp [List.getD_eq_getElem?_getD]
theorem of_fr (f v : Int) (r : List Int) : (Ag.of f (v :: r)).fr = f := rfl
/-- What lies behind a window lies in a later one. -/
theorem head_above {k : Int} {s : Int × Int} {r : List (Int × Int)} (hk : coarse k) (hr : Rise (s :: r)) {c : Nat} (hc : cnt (flr s.1 k + wid k) r = c) {x : Int × Int} {r' : List (Int × Int)} (h : r.drop c = x :: r') : flr s.1 k < flr x.1 k := by
  have hx := rise_lt hr x (List.mem_of_mem_drop (by rw [h]; simp))
  rw [← hc] at h
  exact flr_above hk (rise_head hr) hx.2 (cnt_drop h)

theorem foldS_wins {k : Int} (hk : coarse k) : ∀ (n : Nat) (l : List (Int × Int)) (out : List Ag), l.length ≤ n → Rise l → (∀ s r, l = s :: r → ¬ (0 < out.length ∧ (agAt out (out.length - 1)).fr = flr s.1 k)) → foldS k out l = out ++ wins k l
  | _, [], out, _, _, _ => by rw [wins]; simp [foldS]
  | 0, s :: r, _, h, _, _ => absurd h (by simp)
  | n + 1, s :: r, out, hn, hr, hf => by
    rw [foldS_window out hk hr rfl, wins_cons k s r rfl, put_new (hf s r rfl)]
    rw [foldS_wins hk n (r.drop _) _ (by simp at hn ⊢; omega) (rise_drop _ (rise_tail hr)) (fun x r' h hc => by
      have h1 := head_above hk hr rfl h
      rw [agAt_snoc, of_fr] at hc
      omega)]
    simp

/-- An aggregate of few values up to a billion. -/
def Sm (a : Ag) : Prop := a.may ∧ -1000000000 * a.cn ≤ a.sm ∧ a.sm ≤ 1000000000 * a.cn
def cns : List Ag → Int
  | [] => 0
  | a :: r => a.cn + cns r
def sms : List Ag → Int
  | [] => 0
  | a :: r => a.sm + sms r
theorem cns_append (x y : List Ag) : cns (x ++ y) = cns x + cns y := by
  induction x with
  | nil => simp [cns]
  | cons a r ih => simp only [List.cons_append, cns, ih]; omega
theorem sms_append (x y : List Ag) : sms (x ++ y) = sms x + sms y := by
  induction x with
  | nil => simp [sms]
  | cons a r ih => simp only [List.cons_append, sms, ih]; omega
theorem join_small {a b : Ag} (ha : Sm a) (hb : Sm b) (hc : a.cn + b.cn ≤ 1000000) : join a b = (a.both b, 0) ∧ Sm (a.both b) := by
  have h1 : a.cn + b.cn ≤ 1099511627776 := by omega
  have h2 : In64 (a.sm + b.sm) := by
    have := ha.2
    have := hb.2
    have h3 := ha.1.2.1
    have h4 := hb.1.2.1
    unfold Ag.count at h3 h4
    unfold In64
    omega
  refine ⟨?_, both_may ha.1 hb.1 h1, ?_⟩
  · unfold join
    rw [if_pos ⟨ha.1, hb.1, h1⟩, if_pos h2]
  · have := ha.2
    have := hb.2
    unfold Ag.both
    simp only
    omega
theorem sm_cn {a : Ag} (h : Sm a) : 1 ≤ a.cn := h.1.2.1.1
theorem cns_mem : ∀ {l : List Ag}, (∀ a ∈ l, Sm a) → 0 ≤ cns l ∧ ∀ a ∈ l, a.cn ≤ cns l
  | [], _ => ⟨Int.le_refl _, fun a h => by simp at h⟩
  | x :: r, h => by
    have ih := cns_mem (l := r) (fun a ha => h a (by simp [ha]))
    have hx := sm_cn (h x (by simp))
    refine ⟨by show 0 ≤ x.cn + cns r; omega, fun a ha => ?_⟩
    rw [List.mem_cons] at ha
    show a.cn ≤ x.cn + cns r
    rcases ha with rfl | ha
    · omega
    · have := ih.2 a ha
      omega
theorem cns_set : ∀ {l : List Ag} {j : Nat} (b : Ag), j < l.length → cns (l.set j b) = cns l - (agAt l j).cn + b.cn
  | [], j, b, h => absurd h (by simp)
  | x :: r, 0, b, _ => by
    show b.cn + cns r = x.cn + cns r - x.cn + b.cn
    omega
  | x :: r, j + 1, b, h => by
    have := cns_set (l := r) b (show j < r.length by simpa using h)
    show x.cn + cns (r.set j b) = x.cn + cns r - (agAt r j).cn + b.cn
    omega
theorem agAt_mem {l : List Ag} {j : Nat} (h : j < l.length) : agAt l j ∈ l := by
  have e : agAt l j = l[j] := by simp [agAt, h]
  rw [e]; exact List.getElem_mem h
theorem at_sm {a : Ag} {k : Int} (hk : coarse k) (h : Sm a) : Sm (a.at_ k) := ⟨at_may hk h.1, h.2⟩

theorem put_sm {F : Int} {out : List Ag} {a : Ag} (ho : ∀ x ∈ out, Sm x) (ha : Sm a) (hc : cns out + a.cn ≤ 1000000) : (∀ x ∈ put F out a, Sm x) ∧ cns (put F out a) = cns out + a.cn := by
  unfold put
  by_cases h : 0 < out.length ∧ (agAt out (out.length - 1)).fr = F
  · have hm := agAt_mem (l := out) (j := out.length - 1) (by omega)
    have hj := join_small (ho _ hm) ha (by have := (cns_mem ho).2 _ hm; omega)
    rw [if_pos h]
    refine ⟨fun x hx => ?_, ?_⟩
    · rcases List.mem_or_eq_of_mem_set hx with hx | rfl
      · exact ho x hx
      · exact hj.2
    · rw [cns_set _ (by omega)]
      unfold Ag.both
      simp only
      omega
  · rw [if_neg h]
    refine ⟨fun x hx => ?_, by rw [cns_append]; simp [cns]⟩
    rw [List.mem_append, List.mem_singleton] at hx
    rcases hx with hx | rfl
    · exact ho x hx
    · exact ha
/-- Down's step where nothing goes beyond 64 bits. -/
theorem downOn_put {k : Int} {out : List Ag} {a : Ag} {r : List Ag} (hk : coarse k) (ho : ∀ x ∈ out, Sm x) (ha : Sm a) (hc : cns out + a.cn ≤ 1000000) : downOn k out (a :: r) = downOn k (put (flr a.fr k) out (a.at_ k)) r := by
  rw [downOn]
  unfold put
  by_cases h : 0 < out.length ∧ (agAt out (out.length - 1)).fr = flr a.fr k
  · have hm := agAt_mem (l := out) (j := out.length - 1) (by omega)
    have hj := (join_small (ho _ hm) (at_sm hk ha) (by have := (cns_mem ho).2 _ hm; show _ + a.cn ≤ _; omega)).1
    rw [if_pos h, if_pos h, hj, if_pos rfl]
  · rw [if_neg h, if_neg h]
theorem downOn_code {k : Int} (hk : coarse k) : ∀ (l out : List Ag), (∀ x ∈ out, Sm x) → (∀ x ∈ l, Sm x) → cns out + cns l ≤ 1000000 → (downOn k out l).2 = 0
  | [], out, _, _, _ => by rw [downOn]
  | a :: r, out, ho, hl, hc => by
    have ha := hl a (by simp)
    have hr : ∀ x ∈ r, Sm x := fun x hx => hl x (by simp [hx])
    have h0 := (cns_mem hr).1
    have hc' : cns out + (a.cn + cns r) ≤ 1000000 := hc
    have hp := put_sm (F := flr a.fr k) ho (at_sm hk ha) (by show cns out + a.cn ≤ _; omega)
    rw [downOn_put hk ho ha (by omega)]
    refine downOn_code hk r _ hp.1 hr ?_
    have e := hp.2
    rw [e]
    show cns out + a.cn + cns r ≤ _
    omega

theorem of_sm (f : Int) (hf : Ag.begin_ f) : ∀ (v : Int) (r : List Int), (v :: r).length ≤ 1000 → (∀ x ∈ v :: r, -1000000000 < x ∧ x < 1000000000) → Sm (Ag.of f (v :: r)) ∧ (Ag.of f (v :: r)).cn = (v :: r).length ∧ (Ag.of f (v :: r)).sm = sumL (v :: r)
  | v, [], _, hv => by
    have := hv v (by simp)
    refine ⟨⟨?_, ?_⟩, ?_, ?_⟩
    · show ((Ag.one v f).with []).may
      rw [with_nil]; exact one_may hf
    · show -1000000000 * ((1 : Int) + 0) ≤ v + 0 ∧ v + 0 ≤ 1000000000 * ((1 : Int) + 0)
      omega
    · show (1 : Int) + 0 = 1
      omega
    · rfl
  | v, u :: r, hn, hv => by
    have hv0 := hv v (by simp)
    obtain ⟨h1, h2, h3⟩ := of_sm f hf u r (by simp only [List.length_cons] at hn ⊢; omega) (fun x hx => hv x (List.mem_cons_of_mem _ hx))
    have e := of_cons f v (u :: r) (by simp)
    have ho : Sm (Ag.one v f) := ⟨one_may hf, by show -1000000000 * (1 : Int) ≤ v ∧ v ≤ 1000000000 * (1 : Int); omega⟩
    have hl : (u :: r).length ≤ 1000 := by simp only [List.length_cons] at hn ⊢; omega
    have hj := join_small ho h1 (by rw [h2]; show (1 : Int) + _ ≤ _; omega)
    rw [e]
    refine ⟨hj.2, ?_, ?_⟩
    · show (1 : Int) + (Ag.of f (u :: r)).cn = ((u :: r).length + 1 : Nat)
      rw [h2]; omega
    · show v + (Ag.of f (u :: r)).sm = v + sumL (u :: r)
      rw [h3]

/-- What windows of few samples of values up to a billion are. -/
theorem wins_says {k : Int} (hk : coarse k) : ∀ (n : Nat) (l : List (Int × Int)), l.length ≤ n → l.length ≤ 1000 → Rise l → SmallL l →
    (∀ out, rawOn k out l = (out ++ wins k l, 0)) ∧ (∀ a ∈ wins k l, Sm a ∧ a.fr = flr a.fr k) ∧ cns (wins k l) = l.length ∧ sms (wins k l) = sumL (l.map (·.2)) ∧ (wins k l).length ≤ l.length ∧ (0 < l.length → 0 < (wins k l).length)
  | _, [], _, _, _, _ => by
    rw [wins]
    refine ⟨fun out => by rw [rawOn]; simp, fun a h => by simp at h, rfl, rfl, Nat.le_refl _, fun h => h⟩
  | 0, s :: r, h, _, _, _ => absurd h (by simp)
  | n + 1, s :: r, hn, h1000, hr, hs => by
    obtain ⟨c, hc⟩ : ∃ c, cnt (flr s.1 k + wid k) r = c := ⟨_, rfl⟩
    have hcl : c ≤ r.length := by rw [← hc]; exact cnt_le _ _
    simp only [List.length_cons] at hn h1000
    have hfb := flr_begin hk (rise_head hr)
    have hvs : ∀ x ∈ s.2 :: (r.take c).map (·.2), -1000000000 < x ∧ x < 1000000000 := fun x hx => by
      rw [List.mem_cons] at hx
      rcases hx with rfl | hx
      · exact hs s (by simp)
      · obtain ⟨y, hy, rfl⟩ := List.mem_map.1 hx
        exact hs y (by simp [List.mem_of_mem_take hy])
    have hlen : (s.2 :: (r.take c).map (·.2)).length = c + 1 := by simp; omega
    have hof := of_sm (flr s.1 k) hfb s.2 ((r.take c).map (·.2)) (by rw [hlen]; omega) hvs
    have hall := all_small (flr s.1 k) hfb (s.2 :: (r.take c).map (·.2)) (by simp) (by rw [hlen]; omega) hvs
    have ih := wins_says hk n (r.drop c) (by rw [List.length_drop]; omega) (by rw [List.length_drop]; omega) (rise_drop c (rise_tail hr)) (fun x hx => hs x (by simp [List.mem_of_mem_drop hx]))
    rw [wins_cons k s r hc]
    refine ⟨fun out => ?_, fun a ha => ?_, ?_, ?_, ?_, fun _ => by simp⟩
    · rw [rawOn_cons k out s r hc hall, if_pos rfl, ih.1]
      simp
    · rw [List.mem_cons] at ha
      rcases ha with rfl | ha
      · exact ⟨hof.1, by rw [of_fr]; exact (flr_own hk (rise_head hr)).symm⟩
      · exact ih.2.1 a ha
    · show (Ag.of _ _).cn + cns (wins k (r.drop c)) = _
      rw [hof.2.1, ih.2.2.1, hlen, List.length_drop, List.length_cons]
      omega
    · show (Ag.of _ _).sm + sms (wins k (r.drop c)) = _
      rw [hof.2.2, ih.2.2.2.1]
      show s.2 + sumL ((r.take c).map (·.2)) + sumL ((r.drop c).map (·.2)) = s.2 + sumL (r.map (·.2))
      have e : r.map (·.2) = (r.take c).map (·.2) ++ (r.drop c).map (·.2) := by rw [← List.map_append, List.take_append_drop]
      rw [e, sumL_append]
      omega
    · have := ih.2.2.2.2.1
      rw [List.length_drop] at this
      simp only [List.length_cons]
      omega
theorem wins_align {k : Int} (hk : coarse k) : ∀ (n : Nat) (l : List (Int × Int)), l.length ≤ n → l.length ≤ 1000 → Rise l → SmallL l → Align (wins k l) k ∧ ∀ s r, l = s :: r → (agAt (wins k l) 0).fr = flr s.1 k
  | _, [], _, _, _, _ => by
    rw [wins]
    exact ⟨⟨hk, fun i hi => absurd hi (by simp)⟩, fun s r h => by cases h⟩
  | 0, s :: r, h, _, _, _ => absurd h (by simp)
  | n + 1, s :: r, hn, h1000, hr, hs => by
    have hsay := (wins_says hk (n + 1) (s :: r) hn h1000 hr hs).2.1
    obtain ⟨c, hc⟩ : ∃ c, cnt (flr s.1 k + wid k) r = c := ⟨_, rfl⟩
    have hcl : c ≤ r.length := by rw [← hc]; exact cnt_le _ _
    simp only [List.length_cons] at hn h1000
    have ih := wins_align hk n (r.drop c) (by rw [List.length_drop]; omega) (by rw [List.length_drop]; omega) (rise_drop c (rise_tail hr)) (fun x hx => hs x (by simp [List.mem_of_mem_drop hx]))
    rw [wins_cons k s r hc] at hsay ⊢
    refine ⟨⟨hk, fun i hi => ?_⟩, fun s' r' h => ?_⟩
    · have hm := hsay _ (agAt_mem hi)
      refine ⟨hm.1.1, hm.2, fun h0 => ?_⟩
      match i, h0 with
      | 1, _ =>
        show (Ag.of (flr s.1 k) (s.2 :: (r.take c).map (·.2))).fr < (agAt (wins k (r.drop c)) 0).fr
        match hd : r.drop c with
        | [] => rw [hd, wins] at hi; simp at hi
        | x :: r' =>
          rw [← hd, ih.2 x r' hd, of_fr]
          exact head_above hk hr hc hd
      | i + 2, _ => exact (ih.1.2 (i + 1) (by simp only [List.length_cons] at hi; omega)).2.2 (by omega)
    · injection h with h1 h2
      subst h1
      rfl
/-- From fine to coarse: by steps, or at once. -/
theorem down_wins {k : Int} (hk : coarse k) (hk1 : coarse (k - 1)) : ∀ (n : Nat) (l : List (Int × Int)) (out : List Ag), l.length ≤ n → Rise l → SmallL l → (∀ x ∈ out, Sm x) → cns out + l.length ≤ 1000 → downOn k out (wins (k - 1) l) = (foldS k out l, 0)
  | _, [], out, _, _, _, _, _ => by rw [wins, downOn]; rfl
  | 0, s :: r, _, h, _, _, _, _ => absurd h (by simp)
  | n + 1, s :: r, out, hn, hr, hs, ho, hc => by
    obtain ⟨c, hcc⟩ : ∃ c, cnt (flr s.1 (k - 1) + wid (k - 1)) r = c := ⟨_, rfl⟩
    have hcl : c ≤ r.length := by rw [← hcc]; exact cnt_le _ _
    have h0 := (cns_mem ho).1
    simp only [List.length_cons] at hn hc
    have hfb := flr_begin hk1 (rise_head hr)
    have hvs : ∀ x ∈ s.2 :: (r.take c).map (·.2), -1000000000 < x ∧ x < 1000000000 := fun x hx => by
      rw [List.mem_cons] at hx
      rcases hx with rfl | hx
      · exact hs s (by simp)
      · obtain ⟨y, hy, rfl⟩ := List.mem_map.1 hx
        exact hs y (by simp [List.mem_of_mem_take hy])
    have hlen : (s.2 :: (r.take c).map (·.2)).length = c + 1 := by simp; omega
    have hof := of_sm (flr s.1 (k - 1)) hfb s.2 ((r.take c).map (·.2)) (by rw [hlen]; omega) hvs
    have hnest := flr_nest hk hk1 (rise_head hr)
    have hat : (Ag.of (flr s.1 (k - 1)) (s.2 :: (r.take c).map (·.2))).at_ k = Ag.of (flr s.1 k) (s.2 :: (r.take c).map (·.2)) := by
      unfold Ag.at_
      rw [of_fr, hnest]
      rfl
    have hcn : cns out + (Ag.of (flr s.1 (k - 1)) (s.2 :: (r.take c).map (·.2))).cn ≤ 1000000 := by rw [hof.2.1, hlen]; omega
    have hp := put_sm (F := flr s.1 k) ho (at_sm hk hof.1) hcn
    rw [wins_cons (k - 1) s r hcc, downOn_put hk ho hof.1 hcn, of_fr, hnest, hat]
    rw [hat] at hp
    rw [down_wins hk hk1 n (r.drop c) _ (by rw [List.length_drop]; omega) (rise_drop c (rise_tail hr)) (fun x hx => hs x (by simp [List.mem_of_mem_drop hx])) hp.1 (by
      have e : (Ag.of (flr s.1 k) (s.2 :: (r.take c).map (·.2))).cn = (c : Int) + 1 := by
        have := hof.2.1
        rw [hlen] at this
        exact this
      rw [hp.2, e, List.length_drop]
      omega)]
    congr 1
    have e : s :: r = (s :: r.take c) ++ r.drop c := by rw [List.cons_append, List.take_append_drop]
    have h := foldS_same k (flr s.1 k) out (r.take c) (Ag.one s.2 (flr s.1 k)) rfl (fun x hx => by
      have hx1 := rise_lt hr x (List.mem_of_mem_take hx)
      rw [← hcc] at hx
      have h2 := flr_same hk1 (rise_head hr) hx1.2 (by omega) (cnt_take x hx)
      have h3 := flr_nest hk hk1 hx1.2
      rw [h2] at h3
      rw [← h3, hnest])
    rw [e, foldS_append]
    show _ = foldS k (foldS k (put (flr s.1 k) out (Ag.one s.2 (flr s.1 k))) (r.take c)) (r.drop c)
    rw [h]
    rfl
end Go.Proofs.YtepancmkopifpaaGreatDoor
namespace Go.Proofs.YtepancmkopifpaaGreatDoor
set_option linter.unusedVariables false

def Sg.zero : Sg := ⟨0, 0, 0, 0, [], []⟩
/-- Windows, those that follow with one From joined. -/
def meetOn (out : List Ag) : List Ag → List Ag × Int
  | [] => (out, 0)
  | a :: r =>
    if 0 < out.length ∧ (agAt out (out.length - 1)).fr = a.fr then
      if (join (agAt out (out.length - 1)) a).2 = 0 then meetOn (out.set (out.length - 1) (join (agAt out (out.length - 1)) a).1) r
      else ([], (join (agAt out (out.length - 1)) a).2)
    else meetOn (out ++ [a]) r
/-- Segments that may be, of the tier below k, each where the one ahead ends. -/
def chainOn (k : Int) (e : Int) : List Sg → Prop
  | [] => True
  | s :: r => s.may ∧ s.tier = k - 1 ∧ s.fr = e ∧ chainOn k s.tz r
def chain (k : Int) : List Sg → Prop
  | [] => False
  | s :: r => s.may ∧ s.tier = k - 1 ∧ chainOn k s.tz r
instance chainOnDec (k : Int) : ∀ (e : Int) (l : List Sg), Decidable (chainOn k e l)
  | _, [] => isTrue trivial
  | e, s :: r => by
    have := chainOnDec k s.tz r
    unfold chainOn
    infer_instance
instance chainDec (k : Int) : ∀ (l : List Sg), Decidable (chain k l)
  | [] => isFalse fun h => h
  | s :: r => by unfold chain; infer_instance
/-- What the windows that came of it make. -/
def rollEnd (id k fr tz : Int) (x : List Ag × Int) : Sg × Int :=
  if x.2 ≠ 0 then (Sg.zero, x.2) else if 64 < x.1.length then (Sg.zero, 8) else (⟨id, k, fr, tz, [], x.1⟩, 0)
/-- All windows, as they go into the coarser ones. -/
def rollAll (l : List Sg) (k : Int) : List Ag × Int :=
  if k = 1 then raw (l.flatMap Sg.sm) 1 else if (meetOn [] (l.flatMap Sg.ag)).2 = 0 then down (meetOn [] (l.flatMap Sg.ag)).1 k else ([], (meetOn [] (l.flatMap Sg.ag)).2)
/-- What Roll says. -/
def rollS (l : List Sg) (id k : Int) : Sg × Int :=
  if (1 ≤ id ∧ id ≤ 1073741824) ∧ coarse k ∧ chain k l then rollEnd id k (l.headD Sg.zero).fr (l.getLastD Sg.zero).tz (rollAll l k) else (Sg.zero, 1)

theorem agAt_last (out : List Ag) (a : Ag) : agAt (out ++ [a]) ((out ++ [a]).length - 1) = a := agAt_snoc out a
theorem meetOn_al {W : Int} : ∀ (l : List Ag) (p : Int) (out : List Ag), AlOn W p l → (0 < out.length → (agAt out (out.length - 1)).fr / W < p) → meetOn out l = (out ++ l, 0)
  | [], p, out, _, _ => by rw [meetOn, List.append_nil]
  | a :: r, p, out, h, hp => by
    obtain ⟨h1, h2, h3, h4⟩ := h
    rw [meetOn, if_neg (by
      rintro ⟨h0, e⟩
      have := hp h0
      rw [e] at this
      omega), meetOn_al r (a.fr / W + 1) (out ++ [a]) h4 (fun _ => by rw [agAt_last]; omega), List.append_assoc]
    rfl
theorem meet_align {k : Int} {l : List Ag} (h : Align l k) : meetOn [] l = (l, 0) := by
  have := meetOn_al l 0 [] ((align_iff l h.1).1 h) (fun h0 => absurd h0 (by simp))
  simpa using this
theorem flr_mono {k a b : Int} (hk : coarse k) (ha : Ag.begin_ a) (hb : Ag.begin_ b) (h : a ≤ b) : flr a k ≤ flr b k := by
  have hw := coarse_wid hk
  have e1 := flr_le hk ha
  have e2 := flr_le hk hb
  rcases Int.lt_or_le b (flr a k + wid k) with h1 | h1
  · rw [flr_same hk ha hb h h1]
    exact Int.le_refl _
  · omega
theorem wins_from {k : Int} : ∀ (n : Nat) (l : List (Int × Int)), l.length ≤ n → ∀ a ∈ wins k l, ∃ x ∈ l, a.fr = flr x.1 k
  | _, [], _, a, ha => by rw [wins] at ha; simp at ha
  | 0, s :: r, h, _, _ => absurd h (by simp)
  | n + 1, s :: r, h, a, ha => by
    obtain ⟨c, hc⟩ : ∃ c, cnt (flr s.1 k + wid k) r = c := ⟨_, rfl⟩
    rw [wins_cons k s r hc, List.mem_cons] at ha
    rcases ha with rfl | ha
    · exact ⟨s, by simp, of_fr _ _ _⟩
    · obtain ⟨x, hx, e⟩ := wins_from n (r.drop c) (by rw [List.length_drop]; simp only [List.length_cons] at h; omega) a ha
      exact ⟨x, by simp [List.mem_of_mem_drop hx], e⟩
theorem raw_small {k : Int} {l : List (Int × Int)} (hk : coarse k) (hl : l.length ≤ 1000) (hr : Rise l) (hs : SmallL l) : raw l k = (wins k l, 0) := by
  unfold raw
  rw [if_pos ⟨hk, hr⟩, (wins_says hk l.length l (Nat.le_refl _) hl hr hs).1 []]
  rfl
theorem down_small {k : Int} {l : List (Int × Int)} (hk : coarse k) (hk1 : coarse (k - 1)) (hl : l.length ≤ 1000) (hr : Rise l) (hs : SmallL l) : down (wins (k - 1) l) k = (wins k l, 0) := by
  unfold down
  rw [if_pos ⟨hk, (wins_align hk1 l.length l (Nat.le_refl _) hl hr hs).1⟩, down_wins hk hk1 l.length l [] (Nat.le_refl _) hr hs (fun x hx => by simp at hx) (by simp only [cns]; omega),
    foldS_wins hk l.length l [] (Nat.le_refl _) hr (fun s r _ h => absurd h.1 (by simp))]
  rfl

/-- A segment of samples, small, at tier k under another number. -/
def Sg.at_ (s : Sg) (id k : Int) : Sg := ⟨id, k, s.fr, s.tz, [], wins k s.sm⟩
structure Raw0 (s : Sg) : Prop where
  may : s.may
  tier : s.tier = 0
  small : SmallL s.sm
theorem Raw0.has {s : Sg} (h : Raw0 s) : s.ag = [] ∧ 0 < s.sm.length ∧ s.sm.length ≤ 64 ∧ Rise s.sm ∧ ∀ x ∈ s.sm, s.fr ≤ x.1 ∧ x.1 < s.tz := by
  have := h.may.2.2.2
  unfold Sg.has_ at this
  rwa [if_pos h.tier] at this
theorem at_may_ {s : Sg} (h : Raw0 s) {id k : Int} (hid : 1 ≤ id ∧ id ≤ 1073741824) (hk : coarse k) : (s.at_ id k).may := by
  obtain ⟨h1, h2, h3, h4, h5⟩ := h.has
  have hf := h.may.2.2.1
  have hsay := wins_says hk s.sm.length s.sm (Nat.le_refl _) (by omega) h4 h.small
  have hk' := hk
  unfold coarse at hk'
  refine ⟨hid, ⟨by show 0 ≤ k; omega, by show k ≤ 3; omega⟩, hf, ?_⟩
  unfold Sg.has_
  rw [if_neg (show ¬ (s.at_ id k).tier = 0 by show ¬ k = 0; omega)]
  refine ⟨rfl, hsay.2.2.2.2.2 h2, ?_, (wins_align hk s.sm.length s.sm (Nat.le_refl _) (by omega) h4 h.small).1, fun a ha => ?_⟩
  · show (wins k s.sm).length ≤ 64
    have := hsay.2.2.2.2.1
    omega
  · obtain ⟨x, hx, e⟩ := wins_from s.sm.length s.sm (Nat.le_refl _) a ha
    have hxx := h5 x hx
    have hbx : Ag.begin_ x.1 := by unfold Ag.begin_; omega
    have hbf : Ag.begin_ s.fr := by unfold Ag.begin_; omega
    have h6 := flr_mono hk hbf hbx hxx.1
    have h7 := flr_le hk hbx
    rw [e]
    exact ⟨h6, by show flr x.1 k < s.tz; omega⟩
theorem roll_raw {s : Sg} (h : Raw0 s) {id : Int} (hid : 1 ≤ id ∧ id ≤ 1073741824) : rollS [s] id 1 = (s.at_ id 1, 0) := by
  obtain ⟨h1, h2, h3, h4, h5⟩ := h.has
  have hc : coarse 1 := by decide
  have hsay := wins_says hc s.sm.length s.sm (Nat.le_refl _) (by omega) h4 h.small
  unfold rollS
  rw [if_pos ⟨hid, hc, h.may, by rw [h.tier]; rfl, trivial⟩]
  unfold rollAll
  rw [if_pos rfl]
  simp only [List.flatMap_cons, List.flatMap_nil, List.append_nil]
  rw [raw_small hc (by omega) h4 h.small]
  unfold rollEnd
  simp only
  rw [if_neg (by simp), if_neg (by have := hsay.2.2.2.2.1; omega)]
  rfl
theorem roll_on {s : Sg} (h : Raw0 s) {id id0 k : Int} (hid : 1 ≤ id ∧ id ≤ 1073741824) (hid0 : 1 ≤ id0 ∧ id0 ≤ 1073741824) (hk : coarse k) (hk1 : coarse (k - 1)) : rollS [s.at_ id0 (k - 1)] id k = (s.at_ id k, 0) := by
  obtain ⟨h1, h2, h3, h4, h5⟩ := h.has
  have hsay := wins_says hk s.sm.length s.sm (Nat.le_refl _) (by omega) h4 h.small
  have hal := (wins_align hk1 s.sm.length s.sm (Nat.le_refl _) (by omega) h4 h.small).1
  have hk' := hk1
  unfold coarse at hk'
  unfold rollS
  rw [if_pos ⟨hid, hk, at_may_ h hid0 hk1, rfl, trivial⟩]
  unfold rollAll
  rw [if_neg (by omega)]
  simp only [List.flatMap_cons, List.flatMap_nil, List.append_nil]
  rw [show (s.at_ id0 (k - 1)).ag = wins (k - 1) s.sm from rfl, meet_align hal]
  simp only
  rw [if_pos trivial, down_small hk hk1 (by omega) h4 h.small]
  unfold rollEnd
  simp only
  rw [if_neg (by simp), if_neg (by have := hsay.2.2.2.2.1; omega)]
  rfl
/-- Two segments, or their samples in one: the same is rolled. -/
theorem roll_two {s t one : Sg} (hs : s.may) (ht : t.may) (h1 : one.may) (ks : s.tier = 0) (kt : t.tier = 0) (ko : one.tier = 0) (hf : t.fr = s.tz) (e1 : one.fr = s.fr) (e2 : one.tz = t.tz) (e3 : one.sm = s.sm ++ t.sm) (id : Int) : rollS [s, t] id 1 = rollS [one] id 1 := by
  unfold rollS
  by_cases hid : 1 ≤ id ∧ id ≤ 1073741824
  · rw [if_pos ⟨hid, by decide, hs, by rw [ks]; rfl, ht, by rw [kt]; rfl, hf, trivial⟩, if_pos ⟨hid, by decide, h1, by rw [ko]; rfl, trivial⟩]
    unfold rollAll
    rw [if_pos rfl, if_pos rfl]
    simp only [List.flatMap_cons, List.flatMap_nil, List.append_nil, List.headD_cons, List.getLastD_cons, List.getLastD_nil]
    rw [e3, e1, e2]
  · rw [if_neg (fun h => hid h.1), if_neg (fun h => hid h.1)]
theorem roll_back {s t : Sg} (h : t.tz ≠ s.fr) (id k : Int) : rollS [t, s] id k = (Sg.zero, 1) := by
  unfold rollS
  rw [if_neg]
  rintro ⟨_, _, h1, h2, h3, h4, h5, _⟩
  exact h h5.symm
end Go.Proofs.YtepancmkopifpaaGreatDoor
