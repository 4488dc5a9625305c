/-
  The document's own answer for Down at every row of at most a thousand windows, at every tier; what codes there are, how many windows.
-/
import Derived.Test.YtoccmklbjabaaaaDoorRDown
import Derived.Test.YtoccmklbjabaaaaDoorTDownAny
namespace Go.Proofs.YtoccmklbjabaaaaDoor
open Go.RowKit
set_option linter.unusedVariables false

set_option maxRecDepth 100000 in
theorem rdown_none {A : Option Addr} {cap : Nat} {w : World} (k : Int) (hk : coarse k) (hr : coarse (k - 1)) : Calls Tryd.prog 16 #[.slice A 0 cap, .int .i64 k] w fun e w' => e = .returned (.tuple #[.slice none 0 0, .int .i64 0]) ∧ Below w.heap.size w w' := by
  have hsub : IntKind.i64.wrap (k - 1) = k - 1 := by unfold coarse at hk; rw [IntKind.wrap_i64]; omega
  have m1 := raligned_none A cap (k - 1) w hr
  have k2' : ¬ k < 2 := by unfold coarse at hr; omega
  have k3' : ¬ 3 < k := by unfold coarse at hk; omega
  obtain ⟨k1, hk1⟩ : ∃ k1, k - 1 = k1 := ⟨_, rfl⟩
  replace hsub : IntKind.i64.wrap (k - 1) = k1 := hsub.trans hk1
  rw [hk1] at m1
  have M1 := Lib.hid m1
  clear m1 hk hr hk1
  go_enter Tryd.func16, Tryd.ntmps16
  go_wp2_with fail
  refine M1.out.mono ?_
  rintro e w2 ⟨rfl, hb2⟩
  have HB2 := Lib.hid hb2
  clear hb2 hsub
  go_wp2
  refine wp_loop_rounds 1 ?_
  rw [rounds_succ]
  go_wp2
  (try rw [Exit.noGoto_ret])
  go_ret2
  exact ⟨rfl, HB2.out⟩

set_option maxRecDepth 100000 in
theorem rdown_tier (A : Option Addr) (len cap : Nat) (k : Int) (w : World) (hk : k < 2 ∨ 3 < k) : Calls Tryd.prog 16 #[.slice A len cap, .int .i64 k] w fun e w' => e = .returned (.tuple #[.slice none 0 0, .int .i64 1]) ∧ Below w.heap.size w w' := by
  by_cases h1 : k < 2
  · go_enter Tryd.func16, Tryd.ntmps16
    go_wp2
    (try rw [Exit.noGoto_ret])
    go_ret2
    exact ⟨rfl, Below.refl _ _⟩
  · have h3 : 3 < k := by omega
    go_enter Tryd.func16, Tryd.ntmps16
    go_wp2
    (try rw [Exit.noGoto_ret])
    go_ret2
    exact ⟨rfl, Below.refl _ _⟩

set_option maxRecDepth 100000 in
theorem rdown_fall {A : Option Addr} {len cap : Nat} {l : List Ag} {w : World} (k : Int) (hl : l.length = len) (hS : Aggs w A l) (hc : len ≤ cap) (hm : cap ≤ maxLen) (hk2 : 2 ≤ k) (hk3 : k ≤ 3) (hr : ¬ Align l (k - 1)) : Calls Tryd.prog 16 #[.slice A len cap, .int .i64 k] w fun e w' => e = .returned (.tuple #[.slice none 0 0, .int .i64 1]) ∧ Below w.heap.size w w' := by
  have hsub : IntKind.i64.wrap (k - 1) = k - 1 := by rw [IntKind.wrap_i64]; omega
  have m1 := raligned_any (w := w) (k - 1) hl hS hc hm
  rw [decide_eq_false hr] at m1
  have k2' : ¬ k < 2 := by omega
  have k3' : ¬ 3 < k := by omega
  obtain ⟨k1, hk1⟩ : ∃ k1, k - 1 = k1 := ⟨_, rfl⟩
  replace hsub : IntKind.i64.wrap (k - 1) = k1 := hsub.trans hk1
  rw [hk1] at m1
  have M1 := Lib.hid m1
  clear m1 hr hl hS hc hm hk1
  go_enter Tryd.func16, Tryd.ntmps16
  go_wp2_with fail
  refine M1.out.mono ?_
  rintro e w2 ⟨rfl, hb2⟩
  go_wp2
  (try rw [Exit.noGoto_ret])
  go_ret2
  exact ⟨rfl, hb2⟩

theorem rdown_any {A : Option Addr} {len cap : Nat} {l : List Ag} {w : World} (k : Int) (h : RowOf w A len cap l) (hn : len ≤ 1000) :
    Calls Tryd.prog 16 #[.slice A len cap, .int .i64 k] w (Gives w (down l k)) := by
  obtain ⟨hl, hS, hc, hm, _⟩ := h
  unfold down
  by_cases hco : coarse k ∧ Align l (k - 1)
  · rw [if_pos hco]
    obtain ⟨hk, hr⟩ := hco
    by_cases h0 : 0 < len
    · obtain ⟨b, off, rfl, hcell⟩ := hS.2 (by omega)
      exact rdown_in b off len cap l k w hl h0 hS hc hm hk hr hn
    · obtain rfl : len = 0 := by omega
      obtain rfl : l = [] := List.length_eq_zero_iff.1 hl
      rw [downOn]
      exact (rdown_none k hk hr.1).mono fun _ _ h => gives_none h
  · rw [if_neg hco]
    by_cases hk : k < 2 ∨ 3 < k
    · exact (rdown_tier A len cap k w hk).mono fun _ _ h => gives_none h
    · exact (rdown_fall k hl hS hc hm (by omega) (by omega) (fun h => hco ⟨by unfold coarse; omega, h⟩)).mono fun _ _ h => gives_none h

theorem rawOn_says {k : Int} (hk : coarse k) : ∀ (n : Nat) (l : List (Int × Int)) (out : List Ag), l.length ≤ n → l.length ≤ 1000 → Rise l → ((rawOn k out l).2 = 0 ∨ (rawOn k out l).2 = 3) ∧ (rawOn k out l).1.length ≤ out.length + l.length
  | _, [], out, _, _, _ => by rw [rawOn]; exact ⟨.inl rfl, by simp⟩
  | 0, s :: r, _, h, _, _ => absurd h (by simp)
  | n + 1, s :: r, out, hn, h1000, hr => by
    obtain ⟨c, hc⟩ : ∃ c, cnt (flr s.1 k + wid k) r = c := ⟨_, rfl⟩
    simp only [List.length_cons] at hn h1000
    have ha := all_says (flr s.1 k) (flr_begin hk (rise_head hr)) s.2 ((r.take c).map (·.2)) (by rw [List.length_map, List.length_take]; omega)
    rcases ha with ha | ha
    · rw [rawOn_cons k out s r hc ha, if_pos rfl]
      have ih := rawOn_says hk n (r.drop c) (out ++ [(Ag.one s.2 (flr s.1 k)).with ((r.take c).map (·.2))]) (by rw [List.length_drop]; omega) (by rw [List.length_drop]; omega) (rise_drop c (rise_tail hr))
      refine ⟨ih.1, ?_⟩
      have h2 := ih.2
      rw [List.length_append, List.length_drop] at h2
      simp only [List.length_cons, List.length_nil] at h2 ⊢
      omega
    · rw [rawOn_cons k out s r hc ha, if_neg (by decide)]
      exact ⟨.inr rfl, by simp⟩
theorem raw_says (l : List (Int × Int)) (k : Int) (hl : l.length ≤ 1000) : ((raw l k).2 = 0 ∨ (raw l k).2 = 1 ∨ (raw l k).2 = 3) ∧ (raw l k).1.length ≤ 1000 := by
  unfold raw
  split
  · next h =>
    have := rawOn_says h.1 l.length l [] (Nat.le_refl _) hl h.2
    refine ⟨this.1.imp id .inr, ?_⟩
    have h2 := this.2
    simp at h2
    omega
  · exact ⟨.inr (.inl rfl), by simp⟩
end Go.Proofs.YtoccmklbjabaaaaDoor
