/-
  read, Get of segments: what each returns; nothing that was there is written.
  Segments whose rows are a call's own: what stays of them when cells beside them are written.
-/
import Derived.Test.YtepancmkopifpaaGreatDoorSPut
set_option maxRecDepth 100000
namespace Go.Proofs.YtepancmkopifpaaGreatDoor
open Go.RowKit
attribute [local go_sem ↓] Go.wp_at_zero Go.wp_at_succ
set_option linter.unusedVariables false

/-- A number without a sign, as one with. -/
def ws (n : Nat) : Int := if n < 9223372036854775808 then (n : Int) else (n : Int) - 18446744073709551616
theorem ws_wrap {n : Nat} (h : n < 18446744073709551616) : IntKind.i64.wrap (n : Int) = ws n := by
  unfold ws
  rw [IntKind.wrap_i64]
  split <;> omega
theorem ws_in {n : Nat} (h : n < 18446744073709551616) : In64 (ws n) := by unfold ws In64; split <;> omega
/-- What read takes from bytes. -/
def readW (c : List Nat) : Option Sg :=
  match nums4 (c.drop 2) with
  | none => none
  | some (i, k, f, g, r) =>
    if k = 0 then (getB r).map fun l => ⟨ws i, 0, ws f, ws ((f + g) % 18446744073709551616), l, []⟩
    else if k ≤ 3 then (getA (wid k) r).map fun l => ⟨ws i, k, ws f, ws ((f + g) % 18446744073709551616), [], l⟩ else none
theorem readW_C {c : List Nat} (hb : ∀ x ∈ c, x < 256) : readC c = match readW c with | none => none | some s => if s.may then some s else none := by
  unfold readC readW
  cases e : nums4 (c.drop 2) with
  | none => rfl
  | some x =>
    obtain ⟨i, k, f, g, r⟩ := x
    obtain ⟨_, ⟨h1, h2, h3, h4⟩, _⟩ := nums4_only (fun x hx => hb x (List.mem_of_mem_drop hx)) e
    have key : ∀ (t : Int) (sm : List (Int × Int)) (ag : List Ag), (Sg.may ⟨(i : Int), t, (f : Int), (f : Int) + g, sm, ag⟩ ↔ Sg.may ⟨ws i, t, ws f, ws ((f + g) % 18446744073709551616), sm, ag⟩) ∧ (Sg.may ⟨(i : Int), t, (f : Int), (f : Int) + g, sm, ag⟩ → (⟨(i : Int), t, (f : Int), (f : Int) + g, sm, ag⟩ : Sg) = ⟨ws i, t, ws f, ws ((f + g) % 18446744073709551616), sm, ag⟩) := fun t sm ag => by
      have e1 : Sg.may ⟨(i : Int), t, (f : Int), (f : Int) + g, sm, ag⟩ → (⟨(i : Int), t, (f : Int), (f : Int) + g, sm, ag⟩ : Sg) = ⟨ws i, t, ws f, ws ((f + g) % 18446744073709551616), sm, ag⟩ := fun h => by
        obtain ⟨⟨a1, a2⟩, _, ⟨a5, a6, a7⟩, _⟩ := h
        simp only at a1 a2 a5 a6 a7
        have b1 : ws i = i := by unfold ws; rw [if_pos (by omega)]
        have b2 : ws f = f := by unfold ws; rw [if_pos (by omega)]
        have b3 : ws ((f + g) % 18446744073709551616) = (f : Int) + g := by unfold ws; rw [Nat.mod_eq_of_lt (by omega), if_pos (by omega)]; omega
        rw [b1, b2, b3]
      refine ⟨⟨fun h => by rw [← e1 h]; exact h, fun h => ?_⟩, e1⟩
      obtain ⟨⟨a1, a2⟩, _, ⟨a5, a6, a7⟩, _⟩ := id h
      simp only at a1 a2 a5 a6 a7
      have b1 : ws i = i := by unfold ws at a1 ⊢; split at a1 <;> first | (rw [if_pos (by assumption)]) | omega
      have b2 : ws f = f := by unfold ws at a5 ⊢; split at a5 <;> first | (rw [if_pos (by assumption)]) | omega
      have b3 : ws ((f + g) % 18446744073709551616) = (f : Int) + g := by
        rw [b2] at a5 a6
        unfold ws at a6 a7 ⊢
        split at a6
        · rename_i hq
          rw [if_pos hq] at a7
          omega
        · rename_i hq
          rw [if_neg hq] at a7
          omega
      rw [b1, b2, b3] at h
      exact h
    simp only [readBlk]
    by_cases hk : k = 0
    · rw [if_pos hk, if_pos hk]
      cases getB r with
      | none => rfl
      | some l =>
        simp only [Option.map_some]
        obtain ⟨k1, k2⟩ := key 0 l []
        by_cases hm : Sg.may ⟨(i : Int), 0, (f : Int), (f : Int) + g, l, []⟩
        · rw [if_pos hm, if_pos (k1.1 hm), k2 hm]
        · rw [if_neg hm, if_neg (fun h => hm (k1.2 h))]
    · rw [if_neg hk, if_neg hk]
      by_cases hk3 : k ≤ 3
      · rw [if_pos hk3, if_pos hk3]
        cases getA (wid k) r with
        | none => rfl
        | some l =>
          simp only [Option.map_some]
          obtain ⟨k1, k2⟩ := key k [] l
          by_cases hm : Sg.may ⟨(i : Int), (k : Int), (f : Int), (f : Int) + g, [], l⟩
          · rw [if_pos hm, if_pos (k1.1 hm), k2 hm]
          · rw [if_neg hm, if_neg (fun h => hm (k1.2 h))]
      · rw [if_neg hk3, if_neg hk3]
end Go.Proofs.YtepancmkopifpaaGreatDoor
set_option maxRecDepth 100000
namespace Go.Proofs.YtepancmkopifpaaGreatDoor
open Go.RowKit
set_option linter.unusedVariables false

theorem rowOf_new {w : World} {base n : Nat} {v : Value} {l : List Ag} (h : w.ownsRow base 50 7 v n (aggV l)) (hb : ∀ a ∈ l, a.ok) : ∃ A cap, v = .slice A n cap ∧ RowOf w A n cap l ∧ ∀ a, A = some a → base ≤ a.block := by
  obtain ⟨A, cap, rfl, hr⟩ := rowOf_own h hb
  refine ⟨A, cap, rfl, hr, fun a e => ?_⟩
  rcases h.2 with ⟨e1, e0⟩ | ⟨g, cap', cur, e1, hbg, _⟩
  · injection e1 with e1
    rw [e] at e1
    cases e1
  · injection e1 with e1
    rw [e] at e1
    injection e1 with e1
    rw [e1]
    exact hbg
theorem RowOf.kept {w w' : World} {A : Option Addr} {n cap : Nat} {l : List Ag} (h : RowOf w A n cap l) (hk : ∀ a, A = some a → w'.heap[a.block]? = w.heap[a.block]?) : RowOf w' A n cap l := by
  refine ⟨h.1, ⟨h.2.1.1, fun hp => ?_⟩, h.2.2⟩
  obtain ⟨b, off, e, hc⟩ := h.2.1.2 hp
  refine ⟨b, off, e, fun j hj => ?_⟩
  have hb := hk _ e
  obtain ⟨h0, h1, h2, h3, h4, h5, h6⟩ := hc j hj
  have k : ∀ o u, w.cell? ⟨b, o, none⟩ = some u → w'.cell? ⟨b, o, none⟩ = some u := fun o u hu => (World.cell?_of_block (w := w) (w' := w') (a := ⟨b, o, none⟩) hb).trans hu
  exact ⟨k _ _ h0, k _ _ h1, k _ _ h2, k _ _ h3, k _ _ h4, k _ _ h5, k _ _ h6⟩
/-- A segment whose rows lie from block F on. -/
structure SegN (w : World) (F : Nat) (s : Sg) (A : Option Addr) (n ca : Nat) (B : Option Addr) (m cb : Nat) : Prop where
  at_ : SegAt w s A n ca B m cb
  fa : ∀ a, A = some a → F ≤ a.block
  fb : ∀ a, B = some a → F ≤ a.block
theorem SegN.below {w w' : World} {F : Nat} {s : Sg} {A : Option Addr} {n ca : Nat} {B : Option Addr} {m cb : Nat} (h : SegN w F s A n ca B m cb) (hb : Below w.heap.size w w') : SegN w' F s A n ca B m cb := ⟨h.at_.below hb, h.fa, h.fb⟩
theorem SegN.low {w : World} {F F' : Nat} {s : Sg} {A : Option Addr} {n ca : Nat} {B : Option Addr} {m cb : Nat} (h : SegN w F s A n ca B m cb) (hF : F' ≤ F) : SegN w F' s A n ca B m cb := ⟨h.at_, fun a e => Nat.le_trans hF (h.fa a e), fun a e => Nat.le_trans hF (h.fb a e)⟩
theorem SegN.set_ {w : World} {F : Nat} {s : Sg} {A : Option Addr} {n ca : Nat} {B : Option Addr} {m cb : Nat} (h : SegN w F s A n ca B m cb) {g i : Nat} {u : Value} (hg : g < F) : SegN (w.setCell ⟨g, i, none⟩ u) F s A n ca B m cb :=
  ⟨⟨h.at_.sm.kept (fun a e => Below.heap_setCell _ _ _ _ (by have := h.fa a e; show a.block ≠ g; omega)), h.at_.sn, h.at_.ag.kept (fun a e => Below.heap_setCell _ _ _ _ (by have := h.fb a e; show a.block ≠ g; omega)), h.at_.ok⟩, h.fa, h.fb⟩
theorem SegN.set6 {w : World} {F : Nat} {s : Sg} {A : Option Addr} {n ca : Nat} {B : Option Addr} {m cb : Nat} (h : SegN w F s A n ca B m cb) {g : Nat} {a0 a1 a2 a3 a4 a5 : Value} (hg : g < F) :
    SegN ((((((w.setCell ⟨g, 0, none⟩ a0).setCell ⟨g, 1, none⟩ a1).setCell ⟨g, 2, none⟩ a2).setCell ⟨g, 3, none⟩ a3).setCell ⟨g, 4, none⟩ a4).setCell ⟨g, 5, none⟩ a5) F s A n ca B m cb :=
  (((((h.set_ hg).set_ hg).set_ hg).set_ hg).set_ hg).set_ hg
theorem below_set6 {w w5 : World} {g B : Nat} {a0 a1 a2 a3 a4 a5 : Value} (h : Below B w w5) (hg : B ≤ g) :
    Below B w ((((((w5.setCell ⟨g, 0, none⟩ a0).setCell ⟨g, 1, none⟩ a1).setCell ⟨g, 2, none⟩ a2).setCell ⟨g, 3, none⟩ a3).setCell ⟨g, 4, none⟩ a4).setCell ⟨g, 5, none⟩ a5) :=
  (((((h.setCell hg _).setCell hg _).setCell hg _).setCell hg _).setCell hg _).setCell hg _
end Go.Proofs.YtepancmkopifpaaGreatDoor
