/-
  Plain: segments made up of samples that rise, laid from a time on. No program in it.
-/
import Derived.Test.YtepancmkopifpaaDoorGRoll
import Derived.Test.YtepancmkopifpaaDoorHLaw
import Derived.Test.YtepancmkopifpaaDoorFoldKit
namespace Go.Proofs.YtepancmkopifpaaDoor
set_option linter.unusedVariables false

def shiftL (f : Int) (l : List (Int × Int)) : List (Int × Int) := l.map fun s => (s.1 + f, bil s.2)
theorem shift_len (f : Int) (l : List (Int × Int)) : (shiftL f l).length = l.length := by simp [shiftL]
theorem mem_shift {f : Int} {l : List (Int × Int)} {x : Int × Int} (h : x ∈ shiftL f l) : ∃ s ∈ l, x = (s.1 + f, bil s.2) := by
  obtain ⟨s, hs, e⟩ := List.mem_map.1 h
  exact ⟨s, hs, e.symm⟩
theorem shift_rise {f : Int} {l : List (Int × Int)} (h : Rise l) (hf : 0 ≤ f) (hb : ∀ s ∈ l, s.1 + f ≤ 1099511627776) : Rise (shiftL f l) := by
  obtain ⟨h1, h2⟩ := (rise_pair l).1 h
  refine (rise_pair _).2 ⟨fun x hx => ?_, ?_⟩
  · obtain ⟨s, hs, rfl⟩ := mem_shift hx
    have := h1 s hs
    have := hb s hs
    unfold Ag.begin_ at *
    simp only
    omega
  · unfold shiftL
    refine List.pairwise_map.2 (h2.imp fun {a b} hab => ?_)
    simp only
    omega
theorem shift_small (f : Int) (l : List (Int × Int)) : SmallL (shiftL f l) := by
  intro x hx
  obtain ⟨s, hs, rfl⟩ := mem_shift hx
  exact bil_lt s.2
/-- The segment that Make makes of samples that rise. -/
def madeS (id f r : Int) (l : List (Int × Int)) : Sg := ⟨id, 0, f, lastT (shiftL f l) + 1 + r, shiftL f l, []⟩
theorem made_raw {id f r : Int} {l : List (Int × Int)} (hne : 0 < l.length) (hl : l.length ≤ 64) (hr : Rise l) (hb : ∀ s ∈ l, s.1 ≤ 1000000) (hf : 0 ≤ f ∧ f ≤ 1000000) (hid : 1 ≤ id ∧ id ≤ 1073741824) (hr7 : 0 ≤ r ∧ r ≤ 1000) : Raw0 (madeS id f r l) := by
  have hsr := shift_rise (f := f) hr hf.1 (fun s hs => by have := hb s hs; omega)
  have hp := ((rise_pair _).1 hsr).2
  have hne2 : shiftL f l ≠ [] := fun e => by have := shift_len f l; rw [e] at this; simp at this; omega
  have hlast := last_mem hne2
  obtain ⟨s, hs, e⟩ := mem_shift hlast
  have hlt : lastT (shiftL f l) = s.1 + f := by unfold lastT; rw [e]
  have hs1 := ((rise_pair l).1 hr).1 s hs
  have hs2 := hb s hs
  unfold Ag.begin_ at hs1
  refine ⟨⟨hid, ⟨Int.le_refl 0, by show (0 : Int) ≤ 3; decide⟩, ⟨hf.1, ?_, ?_⟩, ?_⟩, rfl, shift_small f l⟩
  · show f < lastT (shiftL f l) + 1 + r
    omega
  · show lastT (shiftL f l) + 1 + r ≤ 1099511627776
    omega
  · unfold Sg.has_
    rw [if_pos (show (madeS id f r l).tier = 0 from rfl)]
    refine ⟨rfl, ?_, ?_, hsr, fun x hx => ⟨?_, ?_⟩⟩
    · show 0 < (shiftL f l).length
      rw [shift_len]
      exact hne
    · show (shiftL f l).length ≤ 64
      rw [shift_len]
      exact hl
    · obtain ⟨y, hy, rfl⟩ := mem_shift hx
      have := ((rise_pair l).1 hr).1 y hy
      unfold Ag.begin_ at this
      show f ≤ y.1 + f
      omega
    · have := last_le hp x hx
      show x.1 < lastT (shiftL f l) + 1 + r
      omega
theorem made_ok {id f r : Int} {l : List (Int × Int)} (h : Raw0 (madeS id f r l)) : (madeS id f r l).ok := by
  obtain ⟨⟨a1, a2⟩, ⟨a3, a4⟩, ⟨a5, a6, a7⟩, a8⟩ := h.may
  refine ⟨by unfold In64; omega, by unfold In64; omega, by unfold In64; omega, by unfold In64; omega, fun x hx => ?_, fun a ha => by simp [madeS] at ha⟩
  have h1 := h.has.2.2.2.2 x hx
  have h2 := h.small x hx
  unfold In64
  omega
end Go.Proofs.YtepancmkopifpaaDoor
