/-
  What the laws ask of a few: it is told.
-/
import Derived.Test.YtfojciolhokejaaDoorKGet
import Derived.Test.YtfojciolhokejaaDoorKGetA
import Derived.Test.YtfojciolhokejaaDoorBSame
namespace Go.Proofs.YtfojciolhokejaaDoor
open Go.RowKit
set_option linter.unusedVariables false

/-- Bytes that a call returned: they read so, in a row of their own. -/
def BRes (w : World) (d : List Nat) (n : Nat) (e : Ending) (w' : World) : Prop :=
  ∃ g cap, e = .returned (.tuple #[.slice (some ⟨g, 0, none⟩) n cap, .int .i64 0]) ∧ Bytes w' (some ⟨g, 0, none⟩) d ∧ n ≤ cap ∧ cap ≤ maxLen ∧ w.heap.size ≤ g ∧ Below w.heap.size w w'
theorem PutBPost.res {w : World} {d : List Nat} {e : Ending} {w' : World} (h : PutBPost w d e w') (hb : ∀ c ∈ d, c < 256) : BRes w d d.length e w' := by
  obtain ⟨g, cap, rfl, ho, hB⟩ := h
  obtain ⟨h1, h2, h3, h4, h5, h6⟩ := Bytes.own ho hb
  exact ⟨g, cap, rfl, h1, h3, h4, h5, hB⟩
theorem kput_res {A : Option Addr} {len cap : Nat} {l : List (Int × Int)} {w : World} (hl : l.length = len) (hS : Samps w A l) (hc : len ≤ cap) (hm : cap ≤ maxLen) (h : BOk l) :
    Calls Tryd.prog 9 #[.slice A len cap] w (BRes w (putB l) (putB l).length) := (kput_any hl hS hc hm h).mono fun _ _ h => h.res (putB_byte l)
theorem Bytes.cellAt {w : World} {g : Nat} {d : List Nat} (h : Bytes w (some ⟨g, 0, none⟩) d) (j : Nat) (hj : j < d.length) : w.cell? ⟨g, j, none⟩ = some (.int .u8 ((d.getD j 0 : Nat) : Int)) := by
  obtain ⟨ad, e, hc⟩ := h.2 (by omega)
  injection e with e
  subst e
  rw [← hc j hj, addr0]
theorem Bytes.news {w : World} {g : Nat} {d : List Nat} (h : Bytes w (some ⟨g, 0, none⟩) d) : ∀ j u, (bytesV d)[j]? = some u → w.cell? ((⟨g, 0, none⟩ : Addr).add j) = some u := fun j u hj => by
  have hj2 : j < d.length := by
    have := (List.getElem?_eq_some_iff.1 hj).1
    rwa [bytesV_length] at this
  rw [bytesV_get _ _ hj2] at hj
  injection hj with hj
  rw [addr0, ← hj]
  exact h.cellAt j hj2
theorem own_empty (w : World) : (w.alloc (.cells #[] 5)).ownsRow w.heap.size 5 1 (.slice (some ⟨w.heap.size, 0, none⟩) 0 0) 0 [] := World.ownsRow_made w #[] 0 (Nat.le_refl _) (by unfold maxLen; omega) rfl
theorem own5_below {w w' : World} {base n : Nat} {v : Value} {xs : List Value} (h : w.ownsRow base 5 1 v n xs) (hb : Below w.heap.size w w') : w'.ownsRow base 5 1 v n xs :=
  h.kept (row := none) (grown_of hb none) (by cases v.ownBlock <;> simp)

set_option maxRecDepth 100000 in
set_option maxHeartbeats 2000000 in
theorem told_any (w : World) : Calls Tryd.prog 8 #[] w fun e w' => e = .returned (.bool true) ∧ Below w.heap.size w w' := by
  obtain ⟨i0, hi0, hz0, hz1, hz2⟩ := info_parts Tryd.info5
  have d0 : putB [] = [0] := by simp [putB, sNums, bytesOf, enc_small]
  have d1 : putB [(10, 5), (20, 6), (30, 7)] = [3, 10, 10, 20, 2, 0, 2] := by
    simp [putB, sNums, sOn, bytesOf, zig, w64, enc_small]
  have ok0 : BOk [] := ⟨fun i hi => by simp at hi, by simp⟩
  have ok1 : BOk [(10, 5), (20, 6), (30, 7)] := by decide
  have no2 : ¬ BOk [(3, 0), (3, 0)] := by decide
  have in1 : BIn [(10, 5), (20, 6), (30, 7)] := by
    intro s hs
    simp at hs
    rcases hs with rfl | rfl | rfl <;> (unfold In64; simp only; omega)
  have g1 := getB_putB ok1 in1
  have g2 := getB_behind ok1 in1 (x := [0]) (by simp)
  rw [d1] at g1 g2
  have MP0 : Hid (∀ w, Calls Tryd.prog 9 #[.slice none 0 0] w (BRes w [0] 1)) := Lib.hid (fun w => by
    have := kput_res (A := none) (len := 0) (cap := 0) (l := []) (w := w) rfl ⟨by simp, fun h => absurd h (by simp)⟩ (Nat.le_refl _) (by unfold maxLen; omega) ok0
    rw [d0] at this
    exact this)
  have MP1 : Hid (∀ w A, Samps w A [(10, 5), (20, 6), (30, 7)] → Calls Tryd.prog 9 #[.slice A 3 3] w (BRes w [3, 10, 10, 20, 2, 0, 2] 7)) := Lib.hid (fun w A h => by
    have := kput_res (len := 3) (cap := 3) rfl h (Nat.le_refl _) (by unfold maxLen; omega) ok1
    rw [d1] at this
    exact this)
  have MP2 : Hid (∀ w A, Samps w A [(3, 0), (3, 0)] → Calls Tryd.prog 9 #[.slice A 2 2] w fun e w' => e = .returned (.tuple #[.slice none 0 0, .int .i64 1]) ∧ Below w.heap.size w w') := Lib.hid (fun w A h => kput_not (len := 2) rfl h (Nat.le_refl _) (by unfold maxLen; omega) no2)
  have MG1 : Hid (∀ w A cap, Bytes w A [3, 10, 10, 20, 2, 0, 2] → 7 ≤ cap → cap ≤ maxLen → Calls Tryd.prog 11 #[.slice A 7 cap] w (GetPost w (some [(10, 5), (20, 6), (30, 7)]))) := Lib.hid (fun w A cap h h1 h2 => by
    have := kget_any A 7 cap _ w rfl h h1 h2
    rw [g1] at this
    exact this)
  have MG2 : Hid (∀ w A cap, Bytes w A ([3, 10, 10, 20, 2, 0, 2] ++ [0]) → 8 ≤ cap → cap ≤ maxLen → Calls Tryd.prog 11 #[.slice A 8 cap] w (GetPost w none)) := Lib.hid (fun w A cap h h1 h2 => by
    have := kget_any A 8 cap _ w rfl h h1 h2
    rw [g2] at this
    exact this)
  have MG3 := Lib.hid (fun w V => kgeta_not V 0 w (by unfold In64; omega) (by unfold coarse; omega))
  have HS1 : Hid (∀ w : World, Samps (w.alloc (.cells #[.int .i64 10, .int .i64 5, .int .i64 20, .int .i64 6, .int .i64 30, .int .i64 7] 48)) (some ⟨w.heap.size, 0, none⟩) [(10, 5), (20, 6), (30, 7)]) := Lib.hid (fun w => by
    refine ⟨in1, fun _ => ⟨_, _, rfl, fun j hj => ?_⟩⟩
    match j, hj with
    | 0, _ => simp
    | 1, _ => simp
    | 2, _ => simp)
  have HS2 : Hid (∀ w : World, Samps (w.alloc (.cells #[.int .i64 3, .int .i64 0, .int .i64 3, .int .i64 0] 48)) (some ⟨w.heap.size, 0, none⟩) [(3, 0), (3, 0)]) := Lib.hid (fun w => by
    refine ⟨?_, fun _ => ⟨_, _, rfl, fun j hj => ?_⟩⟩
    · intro s hs
      simp at hs
      subst hs
      unfold In64
      simp only
      omega
    · match j, hj with
      | 0, _ => simp
      | 1, _ => simp)
  have HBY : Hid (∀ c ∈ ([3, 10, 10, 20, 2, 0, 2] ++ [0] : List Nat), c < 256) := Lib.hid (by decide)
  clear d0 d1 ok0 ok1 no2 in1 g1 g2
  go_enter Tryd.func8, Tryd.ntmps8
  go_wp2_with fail
  refine (MP0.out _).mono ?_
  rintro e w1 ⟨ga, ca, rfl, hba, hca, hcm, _, hB1⟩
  have HA := Lib.hid hba
  have HB1 := Lib.hid hB1
  clear hba hB1
  go_wp2_with fail
  refine (MP1.out _ _ (HS1.out w1)).mono ?_
  rintro e w2 ⟨gb, cb, rfl, hbb, hcb, hcm2, _, hB2⟩
  have HB2 : Hid (Below w1.heap.size w1 w2) := Lib.hid (past (past_alloc (Below.refl _ _) _) hB2)
  have HS := Lib.hid ((HS1.out w1).below hB2)
  have HBB := Lib.hid hbb
  clear hbb hB2
  go_wp2_with fail
  refine (MG1.out _ _ _ HBB.out hcb hcm2).mono ?_
  rintro e w3 ⟨⟨V, rfl, hown, hin⟩, hB3⟩
  obtain ⟨A3, c3, rfl, hS3, hc3, hm3⟩ := own_form hown hin
  have HB3 := Lib.hid hB3
  have HS3 := Lib.hid hS3
  have HBB3 := Lib.hid (HBB.out.below hB3)
  clear hown hS3 hB3 hin
  have HE := Lib.hid (own_empty w3)
  have HNW : Hid (∀ j u, (bytesV [3, 10, 10, 20, 2, 0, 2])[j]? = some u → (w3.alloc (.cells #[] 5)).cell? ((⟨gb, 0, none⟩ : Addr).add j) = some u) := Lib.hid (Bytes.news (HBB3.out.below (past_alloc (Below.refl _ _) _)))
  have hs3 : w3.heap.size ≤ (w3.alloc (.cells #[] 5)).heap.size := by simp
  have HG4 := Lib.hid (past_alloc (Below.refl w3.heap.size w3) (.cells #[] 5))
  go_wp2_with (at_builtin; refine wpList_append_lies _ rfl _ _ 24 rfl w3.heap.size 5 i0 (.int .u8 0) 1 1 Tryd.underlying24 hi0 hz0 hz1 hz2 rfl (by decide) (.slice (some ⟨w3.heap.size, 0, none⟩) 0 0) 0 [] rfl HE.out ⟨gb, 0, none⟩ 7 cb (bytesV [3, 10, 10, 20, 2, 0, 2]) rfl rfl HNW.out (bytesV_one _) (by decide) ?c3 ?c4 hs3 (w3.alloc (.cells #[] 5)).heap.size rfl ?_)
  case c3 => unfold maxLen; omega
  case c4 => omega
  intro g5 c5 w5 hown5 hgrow5 hat5 hlt5
  have HO5 : Hid (w5.ownsRow w3.heap.size 5 1 (.slice (some ⟨g5, 0, none⟩) 7 c5) 7 (bytesV [3, 10, 10, 20, 2, 0, 2])) := Lib.hid hown5
  have HB5 : Hid (Below w3.heap.size w3 w5) := Lib.hid (HG4.out.grown hgrow5 HG4.out.size (fun k e => by simp only [Value.ownBlock, Option.some.injEq] at e; omega))
  clear hown5 hgrow5 hat5 HNW HE HG4 hlt5
  have HO6 := Lib.hid (own5_below HO5.out (past_alloc (Below.refl w5.heap.size w5) (.cells #[.int .u8 0] 5)))
  have hs5 : w3.heap.size ≤ (w5.alloc (.cells #[.int .u8 0] 5)).heap.size := by have := HB5.out.size; simp; omega
  have HNW : Hid (∀ j u, ([.int .u8 0] : List Value)[j]? = some u → (w5.alloc (.cells #[.int .u8 0] 5)).cell? ((⟨w5.heap.size, 0, none⟩ : Addr).add j) = some u) := Lib.hid (by
    intro j u hj
    match j, hj with
    | 0, hj => simp at hj; subst hj; simp [Addr.add])
  have HON : Hid (∀ u ∈ ([.int .u8 0] : List Value), u.oneCell' = true) := Lib.hid (by intro u hu; simp at hu; subst hu; rfl)
  go_wp2_with (at_builtin; refine wpList_append_lies _ rfl _ _ 24 rfl w3.heap.size 5 i0 (.int .u8 0) 1 1 Tryd.underlying24 hi0 hz0 hz1 hz2 rfl (by decide) (.slice (some ⟨g5, 0, none⟩) 7 c5) 7 (bytesV [3, 10, 10, 20, 2, 0, 2]) rfl HO6.out ⟨w5.heap.size, 0, none⟩ 1 1 [.int .u8 0] rfl rfl HNW.out HON.out (by decide) ?c3 ?c4 hs5 (w5.alloc (.cells #[.int .u8 0] 5)).heap.size rfl ?_)
  case c3 => unfold maxLen; omega
  case c4 => omega
  intro g7 c7 w7 hown7 hgrow7 hat7 hlt7
  have HO7 : Hid (w7.ownsRow w3.heap.size 5 1 (.slice (some ⟨g7, 0, none⟩) 8 c7) 8 (bytesV ([3, 10, 10, 20, 2, 0, 2] ++ [0]))) := Lib.hid hown7
  have HB7 : Hid (Below w3.heap.size w3 w7) := Lib.hid ((HB5.out.trans ((past_alloc (Below.refl w5.heap.size w5) _).mono HB5.out.size)).grown hgrow7 hs5 (fun k e => by simp only [Value.ownBlock, Option.some.injEq] at e; subst e; exact (HO5.out.lt _ rfl).1))
  obtain ⟨hy1, _, hy3, hy4, _, _⟩ := Bytes.own HO7.out HBY.out
  have HY7 := Lib.hid hy1
  clear hown7 hgrow7 hat7 hlt7 HNW HON HO6 hy1 hs5
  go_wp2_with fail
  refine (MG2.out _ _ _ HY7.out hy3 hy4).mono ?_
  rintro e w8 ⟨rfl, hB8⟩
  have HB8 := Lib.hid (past HB7.out hB8)
  clear hB8
  go_wp2_with fail
  refine (MP2.out _ _ (HS2.out w8)).mono ?_
  rintro e w9 ⟨rfl, hB9⟩
  have HB9 := Lib.hid (past (past_alloc HB8.out _) hB9)
  clear hB9
  go_wp2_with fail
  refine (MG3.out _ _).mono ?_
  rintro e w10 ⟨rfl, hB10⟩
  have HB10 := Lib.hid (past HB9.out hB10)
  clear hB10
  have x0 := (HA.out.below (past HB2.out (past HB3.out HB10.out))).cellAt 0 (by decide)
  have x5 := (HBB3.out.below HB10.out).cellAt 5 (by decide)
  simp only [List.getD_cons_zero, List.getD_cons_succ, Int.ofNat_zero] at x0 x5
  have M11 := Lib.hid (sames_any (n := 3) (ca := c3) (cb := 3) rfl (HS3.out.below HB10.out) (HS.out.below (past HB3.out HB10.out)) hc3 (by decide) hm3 (by unfold maxLen; omega))
  have HBF := Lib.hid (past HB1.out (past HB2.out (past HB3.out HB10.out)))
  go_wp2_with fail
  refine M11.out.mono ?_
  rintro e w11 ⟨rfl, hB11⟩
  have HBG := Lib.hid (past HBF.out hB11)
  clear hB11
  go_wp2
  go_ret
  exact ⟨rfl, HBG.out⟩
end Go.Proofs.YtfojciolhokejaaDoor
