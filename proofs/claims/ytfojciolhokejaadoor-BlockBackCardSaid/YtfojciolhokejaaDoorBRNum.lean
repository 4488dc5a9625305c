/-
  The document's own reader of numbers: what it returns, where it stands behind it; nothing else is written.
-/
import Derived.Test.YtfojciolhokejaaDoorBRPut
import Derived.Test.YtfojciolhokejaaDoorVRefGet
namespace Go.Proofs.YtfojciolhokejaaDoor
open Go.RowKit
set_option linter.unusedVariables false

/-- The string s has the bytes bs. -/
def StrIs (s : ByteArray) (bs : List Nat) : Prop := s.size = bs.length ∧ (∀ c ∈ bs, c < 256) ∧ s.size ≤ 1000 ∧ ∀ j (h : j < s.size), (s[j]'h).toNat = bs.getD j 0
/-- The reader at block g stands at p; bad: it has met an error. -/
structure CAt (w : World) (g : Nat) (s : ByteArray) (p : Nat) (bad : Bool) : Prop where
  c0 : w.cell? ⟨g, 0, none⟩ = some (.string s)
  c1 : w.cell? ⟨g, 1, none⟩ = some (.int .i64 (p : Int))
  c2 : w.cell? ⟨g, 2, none⟩ = some (.bool bad)
  f1 : w.frozen? ⟨g, 1, none⟩ = false
  f2 : w.frozen? ⟨g, 2, none⟩ = false
theorem CAt.lt {w : World} {g : Nat} {s : ByteArray} {p : Nat} {bad : Bool} (h : CAt w g s p bad) : g < w.heap.size := World.block_lt_of_cell? w _ h.c0
theorem CAt.below {w w' : World} {g : Nat} {s : ByteArray} {p : Nat} {bad : Bool} (h : CAt w g s p bad) (hb : Below w.heap.size w w') : CAt w' g s p bad :=
  ⟨by rw [hb.cell h.lt]; exact h.c0, by rw [hb.cell h.lt]; exact h.c1, by rw [hb.cell h.lt]; exact h.c2, by rw [hb.frozen h.lt]; exact h.f1, by rw [hb.frozen h.lt]; exact h.f2⟩
/-- A number read at p: it, where the next one stands, whether there was none. -/
def numR (bs : List Nat) (p : Nat) : Bool → Nat × Nat × Bool
  | true => (0, p, true)
  | false => match dec 0 0 (bs.drop p) with
    | some (v, k) => (v, p + k, false)
    | none => (0, p, true)
theorem numR_le {bs : List Nat} {p : Nat} {bad : Bool} (hb : ∀ c ∈ bs, c < 256) (hp : p ≤ bs.length) : (numR bs p bad).2.1 ≤ bs.length ∧ (numR bs p bad).1 < 18446744073709551616 := by
  cases bad with
  | true => exact ⟨hp, by show 0 < 18446744073709551616; decide⟩
  | false =>
    unfold numR
    simp only
    split
    · next v k hd =>
      obtain ⟨n, e, h1, h2, h3, _⟩ := dec_only _ 0 0 v k (fun c hc => hb c (List.mem_of_mem_drop hc)) (by decide) hd
      simp only [Nat.pow_zero, Nat.mul_one, Nat.zero_add] at e h1
      rw [List.length_drop] at h3
      subst e
      exact ⟨by simp only; omega, h1⟩
    · exact ⟨hp, by show 0 < 18446744073709551616; decide⟩
theorem c_set {w : World} {g : Nat} {s : ByteArray} {p : Nat} {bad : Bool} (h : CAt w g s p bad) (p' : Nat) (bad' : Bool) : CAt ((w.setCell ⟨g, 1, none⟩ (.int .i64 (p' : Int))).setCell ⟨g, 2, none⟩ (.bool bad')) g s p' bad' := by
  obtain ⟨c0, c1, c2, f1, f2⟩ := h
  constructor <;> simp [go_sem, *]
theorem g_set (w : World) (g : Nat) (a b : Value) : w.grownBy ((w.setCell ⟨g, 1, none⟩ a).setCell ⟨g, 2, none⟩ b) (some g) :=
  ⟨rfl, rfl, rfl, by simp [World.setCell], fun k _ hk => by
    have hne : k ≠ g := fun e => hk (by rw [e])
    rw [Below.heap_setCell _ _ _ _ (fun e => hne e), Below.heap_setCell _ _ _ _ (fun e => hne e)]⟩
def NumPost (bs : List Nat) (g : Nat) (s : ByteArray) (p : Nat) (bad : Bool) (w : World) (e : Ending) (w' : World) : Prop :=
  e = .returned (.int .u64 ((numR bs p bad).1 : Int)) ∧ CAt w' g s (numR bs p bad).2.1 (numR bs p bad).2.2 ∧ w.grownBy w' (some g)

set_option maxRecDepth 100000 in
theorem num_bad (bs : List Nat) (g : Nat) (s : ByteArray) (p : Nat) (w : World) (h : CAt w g s p true) :
    Calls Tryd.prog 46 #[.pointer (some ⟨g, 0, none⟩)] w (NumPost bs g s p true w) := by
  have c2 := h.c2
  have H := Lib.hid h
  clear h
  go_enter Tryd.func46, Tryd.ntmps46
  go_wp2
  go_ret
  exact ⟨rfl, H.out, ⟨rfl, rfl, rfl, Nat.le_refl _, fun _ _ _ => rfl⟩⟩

set_option maxRecDepth 100000 in
set_option maxHeartbeats 1000000 in
theorem num_good (bs : List Nat) (g : Nat) (s : ByteArray) (p : Nat) (w : World) (h : CAt w g s p false) (hs : StrIs s bs) (hp : p ≤ bs.length) :
    Calls Tryd.prog 46 #[.pointer (some ⟨g, 0, none⟩)] w (NumPost bs g s p false w) := by
  obtain ⟨c0, c1, c2, f1, f2⟩ := h
  have m1 := fun w => refget_nat s bs p w hs.1 hs.2.1 hs.2.2.1 (by rw [hs.1]; exact hp) hs.2.2.2
  cases hd : dec 0 0 (bs.drop p) with
  | none =>
    rw [hd] at m1
    unfold getE at m1
    have M1 := Lib.hid m1
    have HN : Hid (numR bs p false = (0, p, true)) := Lib.hid (by unfold numR; simp only; rw [hd])
    have HA := Lib.hid (c_set (CAt.mk c0 c1 c2 f1 f2) p true)
    have HG := Lib.hid (g_set w g (.int .i64 (p : Int)) (.bool true))
    clear m1 hd hs hp
    go_enter Tryd.func46, Tryd.ntmps46
    go_upto_region 3 with fail
    go_quiet ((exact quiet_same (M1.out _)))
    go_wp2
    go_ret
    exact ⟨by rw [HN.out]; rfl, by rw [HN.out]; exact ⟨HA.out.c0, HA.out.c1, HA.out.c2, HA.out.f1, HA.out.f2⟩, ⟨HG.out.os, HG.out.tape, HG.out.output, HG.out.size, HG.out.block⟩⟩
  | some y =>
    obtain ⟨v, k⟩ := y
    rw [hd] at m1
    unfold getE at m1
    simp only at m1
    have HN : Hid (numR bs p false = (v, p + k, false)) := Lib.hid (by unfold numR; simp only; rw [hd])
    have HA := Lib.hid (c_set (CAt.mk c0 c1 c2 f1 f2) (p + k) false)
    have HG := Lib.hid (g_set w g (.int .i64 ((p + k : Nat) : Int)) (.bool false))
    generalize hq : p + k = q at *
    have M1 := Lib.hid m1
    clear m1 hd hs hp hq
    go_enter Tryd.func46, Tryd.ntmps46
    go_upto_region 3 with fail
    go_quiet ((exact quiet_same (M1.out _)))
    go_wp2
    go_ret
    exact ⟨by rw [HN.out]; rfl, by rw [HN.out]; exact ⟨HA.out.c0, HA.out.c1, HA.out.c2, HA.out.f1, HA.out.f2⟩, ⟨HG.out.os, HG.out.tape, HG.out.output, HG.out.size, HG.out.block⟩⟩
theorem num_any (bs : List Nat) (g : Nat) (s : ByteArray) (p : Nat) (bad : Bool) (w : World) (h : CAt w g s p bad) (hs : StrIs s bs) (hp : p ≤ bs.length) :
    Calls Tryd.prog 46 #[.pointer (some ⟨g, 0, none⟩)] w (NumPost bs g s p bad w) := by
  cases bad with
  | true => exact num_bad bs g s p w h
  | false => exact num_good bs g s p w h hs hp
end Go.Proofs.YtfojciolhokejaaDoor
