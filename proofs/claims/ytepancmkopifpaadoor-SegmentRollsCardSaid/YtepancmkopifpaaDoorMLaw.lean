/-
  What the laws ask of segments of samples: what Put, Get and Info return of them.
-/
import Derived.Test.YtepancmkopifpaaDoorWTold
import Derived.Test.YtepancmkopifpaaDoorMMake
set_option maxRecDepth 100000
namespace Go.Proofs.YtepancmkopifpaaDoor
open Go.RowKit
set_option linter.unusedVariables false

theorem raw0_parts {s : Sg} (h : Raw0 s) : ∃ i f t sm, s = ⟨i, 0, f, t, sm, []⟩ := by
  obtain ⟨i, k, f, t, sm, ag⟩ := s
  have h1 : k = 0 := h.tier
  have h2 : ag = [] := h.has.1
  subst h1 h2
  exact ⟨i, f, t, sm, rfl⟩
theorem putG_ok {i f t : Int} {sm : List (Int × Int)} {n ca : Nat} {A : Option Addr} {w : World} (h : SegAt w ⟨i, 0, f, t, sm, []⟩ A n ca none 0 0) (hw : Wid w) (hm : Sg.may ⟨i, 0, f, t, sm, []⟩) :
    Calls Tryd.prog 8 #[.agg #[.int .i64 i, .int .i64 0, .int .i64 f, .int .i64 t, .slice A n ca, .slice none 0 0]] w fun e w' => ∃ AV cap, e = .returned (.tuple #[.slice AV (Sg.bytes ⟨i, 0, f, t, sm, []⟩).length cap, .int .i64 0]) ∧ BRow w' AV (Sg.bytes ⟨i, 0, f, t, sm, []⟩).length cap (Sg.bytes ⟨i, 0, f, t, sm, []⟩) ∧ Below w.heap.size w w' := by
  refine (putG_any h hw).mono ?_
  rintro e w' ⟨h1, hb⟩
  rw [if_pos hm, if_pos (Nat.le_trans (tier0_len hm h.ok rfl) (by decide))] at h1
  obtain ⟨v, rfl, hown⟩ := h1
  obtain ⟨AV, cap, rfl, hr, _⟩ := brow_of_own hown (bytes_byte _)
  exact ⟨AV, cap, rfl, hr, hb⟩
theorem putG_not {i f t : Int} {sm : List (Int × Int)} {n ca : Nat} {A : Option Addr} {w : World} (h : SegAt w ⟨i, 0, f, t, sm, []⟩ A n ca none 0 0) (hw : Wid w) (hm : ¬ Sg.may ⟨i, 0, f, t, sm, []⟩) :
    Calls Tryd.prog 8 #[.agg #[.int .i64 i, .int .i64 0, .int .i64 f, .int .i64 t, .slice A n ca, .slice none 0 0]] w fun e w' => e = .returned (.tuple #[.slice none 0 0, .int .i64 1]) ∧ Below w.heap.size w w' := by
  refine (putG_any h hw).mono ?_
  rintro e w' ⟨h1, hb⟩
  rw [if_neg hm] at h1
  exact ⟨h1, hb⟩
theorem getG_ok {i f t : Int} {sm : List (Int × Int)} {b : List Nat} {n cap : Nat} {AV : Option Addr} {w : World} (h : BRow w AV n cap b) (hf : IsFile b ⟨i, 0, f, t, sm, []⟩) (hbt : ∀ c ∈ b, c < 256) (hw : Wid w) :
    Calls Tryd.prog 12 #[.slice AV n cap] w fun e w' => ∃ A n ca B m cb, e = .returned (.tuple #[.agg #[.int .i64 i, .int .i64 0, .int .i64 f, .int .i64 t, .slice A n ca, .slice B m cb], .int .i64 0]) ∧ SegAt w' ⟨i, 0, f, t, sm, []⟩ A n ca B m cb ∧ Below w.heap.size w w' := by
  refine (getG_any h hw).mono ?_
  rintro e w' ⟨h1, hb⟩
  rw [(readS_iff hbt).2 hf] at h1
  obtain ⟨A, n, ca, B, m, cb, he, hs⟩ := h1
  exact ⟨A, n, ca, B, m, cb, he, hs.at_, hb⟩
theorem getG_not {b : List Nat} {n cap : Nat} {AV : Option Addr} {w : World} (h : BRow w AV n cap b) (hf : ∀ s, ¬ IsFile b s) (hbt : ∀ c ∈ b, c < 256) (hw : Wid w) :
    Calls Tryd.prog 12 #[.slice AV n cap] w fun e w' => e = .returned (.tuple #[.agg #[.int .i64 0, .int .i64 0, .int .i64 0, .int .i64 0, .slice none 0 0, .slice none 0 0], .int .i64 2]) ∧ Below w.heap.size w w' := by
  refine (getG_any h hw).mono ?_
  rintro e w' ⟨h1, hb⟩
  rw [readS_none hbt hf] at h1
  exact ⟨h1, hb⟩
theorem infoG_ok {i f t : Int} {sm : List (Int × Int)} {b : List Nat} {n cap : Nat} {AV : Option Addr} {w : World} (h : BRow w AV n cap b) (hf : IsFile b ⟨i, 0, f, t, sm, []⟩) (hbt : ∀ c ∈ b, c < 256) (hw : Wid w) :
    Calls Tryd.prog 15 #[.slice AV n cap] w fun e w' => ∃ S : Int, e = .returned (.tuple #[.agg #[.int .i64 i, .int .i64 0, .int .i64 f, .int .i64 t, .int .u32 S], .int .i64 0]) ∧ Below w.heap.size w w' := by
  refine (infoG_any h hw).mono ?_
  rintro e w' ⟨h1, hb⟩
  rw [(readS_iff hbt).2 hf] at h1
  exact ⟨_, h1, hb⟩
end Go.Proofs.YtepancmkopifpaaDoor
