/-
  disk's Append, where it tells an error: what it tells; nothing that was there is written.
-/
import Derived.Test.YtofjealjecfkiaaFRem
set_option maxRecDepth 100000
namespace Go.Proofs.Ytofjealjecfkiaa
open Go.RowKit
attribute [local go_sem ↓] Go.wp_at_zero Go.wp_at_succ
set_option linter.unusedVariables false
variable {w : World} {base p room rc : Nat} {R : Option Addr} {fs : List Fl}

instance subB_some (ws : World) : Nonempty (SubB ws) := ⟨⟨ws, Below.refl _ _⟩⟩
theorem append_bad (s : List UInt8) {B : Option Addr} {m c : Nat} (h : DiskAt w base p room R rc fs) (hc : (lookC fs s).2 = 1) :
    Calls Try.prog 9 #[.pointer (some ⟨p, 0, none⟩), str s, .slice B m c] w fun e w' => e = .returned (.int .i64 1) ∧ w = w' := by
  have m := look_any s h
  rw [hc] at m
  have M := Lib.hid m
  generalize (lookC fs s).1 = a at *
  clear h hc m
  go_enter Try.func9, Try.ntmps9
  go_wp2_with fail
  refine M.out.mono ?_
  rintro e w' ⟨rfl, rfl⟩
  go_wp2
  go_ret
  exact ⟨rfl, rfl⟩

set_option maxHeartbeats 1000000 in
/-- No room for the bytes. -/
theorem append_full (s : List UInt8) {B : Option Addr} {m c k : Nat} (h : DiskAt w base p room R rc fs) (hc : lookC fs s = (k, 0) ∨ (lookC fs s = (k, 9) ∧ fs.length < 200)) (hm : m ≤ 9000000) (hfull : room < usedOf fs + m) :
    Calls Try.prog 9 #[.pointer (some ⟨p, 0, none⟩), str s, .slice B m c] w fun e w' => e = .returned (.int .i64 8) ∧ Below w.heap.size w w' := by
  have q := look_any s h
  have D0 : ∀ u : SubB w, u.w.cell? ⟨p, 0, none⟩ = some (.int .i64 (room : Int)) := fun u => (h.below u.le).cell0
  have D1 : ∀ u : SubB w, u.w.cell? ⟨p, 1, none⟩ = some (.slice R fs.length rc) := fun u => (h.below u.le).cell1
  have MU : Hid (∀ u : SubB w, Calls Try.prog 14 #[.pointer (some ⟨p, 0, none⟩)] u.w fun e w'' => e = .returned (.int .i64 (usedOf fs : Int)) ∧ ∃ u' : SubB w, w'' = u'.w) := Lib.hid (fun u => calm_call (used_any (h.below u.le)))
  have hbig := h.ok.big
  have hused := h.ok.used
  change usedOf fs ≤ room at hused
  generalize usedOf fs = U at *
  have hw1 : IntKind.i64.wrap ((room : Int) - (U : Int)) = (room : Int) - (U : Int) := by rw [IntKind.wrap_i64]; omega
  have hgt : (room : Int) - (U : Int) < (m : Int) := by omega
  rcases hc with hc | ⟨hc, hfew⟩
  · rw [hc] at q
    have M := Lib.hid q
    clear h hc q hfull
    generalize fs.length = n at *
    go_enter Try.func9, Try.ntmps9
    go_wp2_with fail
    refine M.out.mono ?_
    rintro e w' ⟨rfl, rfl⟩
    go_upto_region 5 with fail
    refine wp_region_calm (by kernel_rfl) (by kernel_rfl) ?_
    repeat (go_big_quiet_step ((go_at_call 14; exact MU.out _)))
    refine wpQuiet_nil ?_
    rintro _ ⟨u, rfl⟩
    clear D0 D1
    go_wp2
    go_ret
    exact ⟨rfl, u.le⟩
  · rw [hc] at q
    have M := Lib.hid q
    have hf2 : ((fs.length : Int) == 200) = false := by rw [beq_eq_false_iff_ne]; omega
    clear h hc q hfull
    generalize fs.length = n at *
    go_enter Try.func9, Try.ntmps9
    go_wp2_with fail
    refine M.out.mono ?_
    rintro e w' ⟨rfl, rfl⟩
    go_upto_region 5 with fail
    refine wp_region_calm (by kernel_rfl) (by kernel_rfl) ?_
    repeat (go_big_quiet_step ((go_at_call 14; exact MU.out _)))
    refine wpQuiet_nil ?_
    rintro _ ⟨u, rfl⟩
    clear D0 D1
    go_wp2
    go_ret
    exact ⟨rfl, u.le⟩
/-- No room for one more file. -/
theorem append_many (s : List UInt8) {B : Option Addr} {m c k : Nat} (h : DiskAt w base p room R rc fs) (hc : lookC fs s = (k, 9)) (hn : fs.length = 200) :
    Calls Try.prog 9 #[.pointer (some ⟨p, 0, none⟩), str s, .slice B m c] w fun e w' => e = .returned (.int .i64 8) ∧ Below w.heap.size w w' := by
  have q := look_any s h
  have D0 : ∀ u : SubB w, u.w.cell? ⟨p, 0, none⟩ = some (.int .i64 (room : Int)) := fun u => (h.below u.le).cell0
  have D1 : ∀ u : SubB w, u.w.cell? ⟨p, 1, none⟩ = some (.slice R fs.length rc) := fun u => (h.below u.le).cell1
  rw [hc] at q
  have M := Lib.hid q
  rw [hn] at D1
  clear h hc q hn
  go_enter Try.func9, Try.ntmps9
  go_wp2_with fail
  refine M.out.mono ?_
  rintro e w' ⟨rfl, rfl⟩
  go_upto_region 5 with fail
  refine wp_region_calm (by kernel_rfl) (by kernel_rfl) ?_
  repeat (go_big_quiet_step (fail))
  refine wpQuiet_nil ?_
  rintro _ ⟨u, rfl⟩
  clear D0 D1
  go_wp2
  go_ret
  exact ⟨rfl, u.le⟩
end Go.Proofs.Ytofjealjecfkiaa
