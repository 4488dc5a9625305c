/-
  told returns true; nothing that was there is written.
-/
import Derived.Test.YtdiipbichlbmgaaDoorCalm
namespace Go.Proofs.YtdiipbichlbmgaaDoor
open Go.RowKit
set_option linter.unusedVariables false

theorem parse0 : parse [] = (Pol.dflt, 0, 0) := by decide +kernel
theorem parse1 : parse [107, 101, 101, 112, 32, 114, 97, 119, 32, 57, 32, 35, 32, 120, 10, 10, 115, 101, 97, 108, 32, 51, 10, 115, 112, 97, 110, 32, 55, 10, 107, 101, 101, 112, 32, 53, 109, 32, 101, 118, 101, 114, 10, 107, 101, 101, 112, 32, 49, 104, 32, 101, 118, 101, 114] = (⟨9, 0, 0, 0, 3, 7⟩, 0, 0) := by decide +kernel
theorem parse2 : parse [115, 101, 97, 108, 32, 51, 10, 115, 101, 97, 108, 32, 52] = (Pol.zero, 4, 2) := by decide +kernel
theorem parse3 : parse [115, 101, 97, 108, 32, 48] = (Pol.zero, 5, 0) := by decide +kernel
theorem print0 : printR Pol.dflt = [107, 101, 101, 112, 32, 114, 97, 119, 32, 54, 48, 10, 107, 101, 101, 112, 32, 53, 109, 32, 54, 48, 48, 10, 107, 101, 101, 112, 32, 49, 104, 32, 54, 48, 48, 48, 10, 107, 101, 101, 112, 32, 49, 100, 32, 101, 118, 101, 114, 10, 115, 101, 97, 108, 32, 56, 10, 115, 112, 97, 110, 32, 51, 48, 10] := by
  simp [printR, linesR, lineR, ageText, Lib.itoa, Lib.decDigits, nameAt, Pol.at, ever, Pol.dflt]
theorem may0 : Pol.dflt.may := by decide
theorem may1 : ¬ Pol.zero.may := by decide

/-- What every call of told's finds. -/
structure TEnv (w wr : World) : Prop where
  nam : Nam wr
  pow : Pow wr
  pos : 0 < wr.heap.size
  below : Below w.heap.size w wr
theorem TEnv.on {w wr w' : World} (h : TEnv w wr) (hb : Below wr.heap.size wr w') : TEnv w w' := ⟨h.nam.below h.pos hb, h.pow.below hb, Nat.lt_of_lt_of_le h.pos hb.size, past h.below hb⟩
theorem TEnv.alloc {w wr : World} (h : TEnv w wr) (o : Obj) : TEnv w (wr.alloc o) := h.on (past_alloc (Below.refl _ _) _)

theorem parse_is {l : List UInt8} {p : Pol} {c n : Int} (h : parse l = (p, c, n)) (hl : l.length < 4611686018427387900) {w wr : World} (hE : TEnv w wr) :
    Calls Tryd.prog 11 #[.string ⟨l.toArray⟩] wr fun e w' => e = .returned (.tuple #[.agg #[.int .i64 p.a0, .int .i64 p.a1, .int .i64 p.a2, .int .i64 p.a3, .int .i64 p.cn, .int .i64 p.sp], .int .i64 c, .int .i64 n]) ∧ Below wr.heap.size wr w' := by
  have := parse_any l wr hl hE.nam hE.pos
  rw [h] at this
  exact this

set_option maxRecDepth 100000 in
set_option maxHeartbeats 1000000 in
theorem told_any (w : World) (hw : Nam w) (hT : Pow w) (hn : 0 < w.heap.size) :
    Calls Tryd.prog 9 #[] w fun e w' => e = .returned (.bool true) ∧ Below w.heap.size w w' := by
  have HE : Hid (TEnv w w) := Lib.hid ⟨hw, hT, hn, Below.refl _ _⟩
  clear hw hT hn
  go_enter Tryd.func9, Tryd.ntmps9
  go_wp2_with fail
  refine (parse_is parse0 (by decide) HE.out).mono ?_
  rintro e w1 ⟨rfl, hb1⟩
  have HE1 := Lib.hid (HE.out.on hb1)
  clear hb1 HE
  have HA : Hid (TEnv w (w1.alloc (.cells #[.int .i64 60, .int .i64 600, .int .i64 6000, .int .i64 0, .int .i64 8, .int .i64 30] 25)) ∧ PHold (w1.alloc (.cells #[.int .i64 60, .int .i64 600, .int .i64 6000, .int .i64 0, .int .i64 8, .int .i64 30] 25)) w1.heap.size Pol.dflt ∧ w1.heap.size < (w1.alloc (.cells #[.int .i64 60, .int .i64 600, .int .i64 6000, .int .i64 0, .int .i64 8, .int .i64 30] 25)).heap.size) := Lib.hid ⟨HE1.out.alloc _, by unfold PHold Pol.dflt; simp, by simp⟩
  unfold Pol.dflt
  go_wp2_with fail
  generalize w1.alloc (.cells #[.int .i64 60, .int .i64 600, .int .i64 6000, .int .i64 0, .int .i64 8, .int .i64 30] 25) = w2 at *
  generalize w1.heap.size = g1 at *
  refine (parse_is parse1 (by decide) HA.out.1).mono ?_
  rintro e w3 ⟨rfl, hb3⟩
  have HB : Hid (TEnv w (w3.alloc (.cells #[.int .i64 9, .int .i64 0, .int .i64 0, .int .i64 0, .int .i64 3, .int .i64 7] 25)) ∧ (PHold (w3.alloc (.cells #[.int .i64 9, .int .i64 0, .int .i64 0, .int .i64 0, .int .i64 3, .int .i64 7] 25)) g1 Pol.dflt ∧ g1 < (w3.alloc (.cells #[.int .i64 9, .int .i64 0, .int .i64 0, .int .i64 0, .int .i64 3, .int .i64 7] 25)).heap.size) ∧ PHold (w3.alloc (.cells #[.int .i64 9, .int .i64 0, .int .i64 0, .int .i64 0, .int .i64 3, .int .i64 7] 25)) w3.heap.size ⟨9, 0, 0, 0, 3, 7⟩ ∧ w3.heap.size < (w3.alloc (.cells #[.int .i64 9, .int .i64 0, .int .i64 0, .int .i64 0, .int .i64 3, .int .i64 7] 25)).heap.size) := Lib.hid (by
    have hba := past_alloc hb3 (.cells #[.int .i64 9, .int .i64 0, .int .i64 0, .int .i64 0, .int .i64 3, .int .i64 7] 25)
    exact ⟨HA.out.1.on hba, ⟨HA.out.2.1.below HA.out.2.2 hba, Nat.lt_of_lt_of_le HA.out.2.2 hba.size⟩, by unfold PHold; simp, by simp⟩)
  clear hb3 HA HE1
  go_wp2_with fail
  generalize w3.alloc (.cells #[.int .i64 9, .int .i64 0, .int .i64 0, .int .i64 0, .int .i64 3, .int .i64 7] 25) = w4 at *
  generalize w3.heap.size = g4 at *
  refine (parse_is parse2 (by decide) HB.out.1).mono ?_
  rintro e w5 ⟨rfl, hb5⟩
  unfold Pol.zero
  go_wp2_with fail
  have HC : Hid (TEnv w (w5.alloc (.cells #[.int .i64 0, .int .i64 0, .int .i64 0, .int .i64 0, .int .i64 0, .int .i64 0] 25)) ∧ Below w4.heap.size w4 (w5.alloc (.cells #[.int .i64 0, .int .i64 0, .int .i64 0, .int .i64 0, .int .i64 0, .int .i64 0] 25))) := Lib.hid (by
    have hba := past_alloc hb5 (.cells #[.int .i64 0, .int .i64 0, .int .i64 0, .int .i64 0, .int .i64 0, .int .i64 0] 25)
    exact ⟨HB.out.1.on hba, hba⟩)
  clear hb5
  generalize w5.alloc (.cells #[.int .i64 0, .int .i64 0, .int .i64 0, .int .i64 0, .int .i64 0, .int .i64 0] 25) = w6 at *
  refine (parse_is parse3 (by decide) HC.out.1).mono ?_
  rintro e w7 ⟨rfl, hb7⟩
  unfold Pol.zero
  go_wp2_with fail
  have HD : Hid (TEnv w (w7.alloc (.cells #[.int .i64 0, .int .i64 0, .int .i64 0, .int .i64 0, .int .i64 0, .int .i64 0] 25)) ∧ Below w4.heap.size w4 (w7.alloc (.cells #[.int .i64 0, .int .i64 0, .int .i64 0, .int .i64 0, .int .i64 0, .int .i64 0] 25))) := Lib.hid (by
    have hba := past_alloc hb7 (.cells #[.int .i64 0, .int .i64 0, .int .i64 0, .int .i64 0, .int .i64 0, .int .i64 0] 25)
    exact ⟨HC.out.1.on hba, past HC.out.2 hba⟩)
  clear hb7 HC
  generalize w7.alloc (.cells #[.int .i64 0, .int .i64 0, .int .i64 0, .int .i64 0, .int .i64 0, .int .i64 0] 25) = w8 at *
  refine (default_any _).mono ?_
  rintro e w9 ⟨rfl, hb9⟩
  have HE9 : Hid (TEnv w w9 ∧ Below w4.heap.size w4 w9) := Lib.hid ⟨HD.out.1.on hb9, past HD.out.2 hb9⟩
  clear hb9 HD
  have M := Lib.hid (print_may Pol.dflt w9 (by decide) may0 HE9.out.1.nam HE9.out.1.pow HE9.out.1.pos)
  rw [print0] at M
  go_wp2_with fail
  refine M.out.mono ?_
  rintro e w10 ⟨rfl, hb10⟩
  have HE10 : Hid (TEnv w w10 ∧ Below w4.heap.size w4 w10) := Lib.hid ⟨HE9.out.1.on hb10, past HE9.out.2 hb10⟩
  clear hb10 HE9 M
  go_upto_region 6 with fail
  have HA : Hid (∀ u : SubB w10, PHold u.w g1 Pol.dflt ∧ PHold u.w g4 ⟨9, 0, 0, 0, 3, 7⟩) := Lib.hid (fun u => by
    have hbu := past HE10.out.2 u.le
    exact ⟨HB.out.2.1.1.below HB.out.2.1.2 hbu, HB.out.2.2.1.below HB.out.2.2.2 hbu⟩)
  have D0 : ∀ u : SubB w10, u.w.cell? ⟨g1, 0, none⟩ = some (.int .i64 60) := fun u => (HA.out u).1.1
  have D1 : ∀ u : SubB w10, u.w.cell? ⟨g1, 1, none⟩ = some (.int .i64 600) := fun u => (HA.out u).1.2.1
  have D2 : ∀ u : SubB w10, u.w.cell? ⟨g1, 2, none⟩ = some (.int .i64 6000) := fun u => (HA.out u).1.2.2.1
  have D3 : ∀ u : SubB w10, u.w.cell? ⟨g1, 3, none⟩ = some (.int .i64 0) := fun u => (HA.out u).1.2.2.2.1
  have D4 : ∀ u : SubB w10, u.w.cell? ⟨g1, 4, none⟩ = some (.int .i64 8) := fun u => (HA.out u).1.2.2.2.2.1
  have D5 : ∀ u : SubB w10, u.w.cell? ⟨g1, 5, none⟩ = some (.int .i64 30) := fun u => (HA.out u).1.2.2.2.2.2
  have E0 : ∀ u : SubB w10, u.w.cell? ⟨g4, 0, none⟩ = some (.int .i64 9) := fun u => (HA.out u).2.1
  have E1 : ∀ u : SubB w10, u.w.cell? ⟨g4, 1, none⟩ = some (.int .i64 0) := fun u => (HA.out u).2.2.1
  have E4 : ∀ u : SubB w10, u.w.cell? ⟨g4, 4, none⟩ = some (.int .i64 3) := fun u => (HA.out u).2.2.2.2.2.1
  have E5 : ∀ u : SubB w10, u.w.cell? ⟨g4, 5, none⟩ = some (.int .i64 7) := fun u => (HA.out u).2.2.2.2.2.2
  have N0 : Hid (∀ w, Calls Tryd.prog 7 #[] w fun e w' => e = .returned (.agg #[.int .i64 60, .int .i64 600, .int .i64 6000, .int .i64 0, .int .i64 8, .int .i64 30]) ∧ Below w.heap.size w w') := Lib.hid (fun w => default_any w)
  have N1 : Hid (∀ w, Calls Tryd.prog 10 #[.agg #[.int .i64 60, .int .i64 600, .int .i64 6000, .int .i64 0, .int .i64 8, .int .i64 30]] w fun e w' => e = .returned (.bool true) ∧ Below w.heap.size w w') := Lib.hid (fun w => by
    have := may_any Pol.dflt w (by decide)
    rw [decide_eq_true may0] at this
    exact this)
  have N2 : Hid (∀ w, Calls Tryd.prog 10 #[.agg #[.int .i64 0, .int .i64 0, .int .i64 0, .int .i64 0, .int .i64 0, .int .i64 0]] w fun e w' => e = .returned (.bool false) ∧ Below w.heap.size w w') := Lib.hid (fun w => by
    have := may_any Pol.zero w (by decide)
    rw [decide_eq_false may1] at this
    exact this)
  have AE : ∀ w, (Op.equalIn 9999 23 (.agg #[.int .i64 60, .int .i64 600, .int .i64 6000, .int .i64 0]) (.agg #[.int .i64 60, .int .i64 600, .int .i64 6000, .int .i64 0])).run Tryd.prog w = .ok true w := fun w => by rw [eqArr]; rfl
  clear HB HA
  unfold str
  refine wp_region_calm (by kernel_rfl) (by kernel_rfl) ?_
  simp only [List.append]
  repeat (go_big_quiet_step ((first | (go_at_call 7; exact calm_call (N0.out _)) | (go_at_call 10; with_reducible exact calm_call (N1.out _)) | (go_at_call 10; with_reducible exact calm_call (N2.out _)))))
  refine wpQuiet_nil ?_
  rintro _ ⟨u, rfl⟩
  clear D0 D1 D2 D3 D4 D5 E0 E1 E4 E5
  go_wp2
  go_ret
  exact ⟨rfl, past HE10.out.1.below u.le⟩
end Go.Proofs.YtdiipbichlbmgaaDoor
