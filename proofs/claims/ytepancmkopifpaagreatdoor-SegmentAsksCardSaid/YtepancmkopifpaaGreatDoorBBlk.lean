/-
  The document's own answer for a block's bytes: what it returns of every row of samples; nothing that was there is written.
  The document's own reader of numbers: what it returns, where it stands behind it; nothing else is written.
  Plain: samples as the document's own reader takes them, with sums round 64 bits; it meets what bytes say.
-/
import Derived.Test.YtepancmkopifpaaGreatDoorVRefGet
import Derived.Test.YtepancmkopifpaaGreatDoorRRise
import Derived.Test.YtepancmkopifpaaGreatDoorBMore
namespace Go.Proofs.YtepancmkopifpaaGreatDoor
open Go.RowKit
set_option linter.unusedVariables false

theorem strB_app (a b : List Nat) : strB a ++ strB b = strB (a ++ b) := by
  apply ByteArray.ext
  simp [strB, strOfNums]
instance (l : List (Int × Int)) : Decidable (BOk l) := by unfold BOk; infer_instance
theorem bytesOf_app (a b : List Nat) : bytesOf (a ++ b) = bytesOf a ++ bytesOf b := by simp [bytesOf]
theorem bytesOf_len : ∀ (l : List Nat), (∀ n ∈ l, n < 18446744073709551616) → (bytesOf l).length ≤ 10 * l.length
  | [], _ => by simp [bytesOf]
  | n :: r, h => by
    have h1 := enc_len_le (h n (by simp))
    have h2 := bytesOf_len r (fun m hm => h m (by simp [hm]))
    rw [bytesOf_cons, List.length_append, List.length_cons]
    omega

/-- The numbers of the samples from i on, behind those ahead. -/
def sFrom (l : List (Int × Int)) (i : Nat) (s : Int) : List Nat :=
  match i with
  | 0 => match l with | [] => [] | x :: r => x.1.toNat :: (zig x.2).toNat :: sOn x.1 0 x.2 r
  | i + 1 => sOn (l.getD i (0, 0)).1 s (l.getD i (0, 0)).2 (l.drop (i + 1))
theorem sFrom_zero (l : List (Int × Int)) : sNums l = l.length :: sFrom l 0 0 := by
  cases l <;> rfl
theorem sFrom_first {x : Int × Int} {r : List (Int × Int)} : sFrom (x :: r) 0 0 = x.1.toNat :: (zig x.2).toNat :: sFrom (x :: r) 1 0 := by
  simp [sFrom]
theorem sFrom_next {l : List (Int × Int)} {i : Nat} {s : Int} (h : i + 1 < l.length) : sFrom l (i + 1) s =
    (zig ((l.getD (i + 1) (0, 0)).1 - (l.getD i (0, 0)).1 - s)).toNat :: (zig (w64 ((l.getD (i + 1) (0, 0)).2 - (l.getD i (0, 0)).2))).toNat :: sFrom l (i + 2) ((l.getD (i + 1) (0, 0)).1 - (l.getD i (0, 0)).1) := by
  have e : l.drop (i + 1) = l.getD (i + 1) (0, 0) :: l.drop (i + 2) := by
    rw [List.drop_eq_getElem_cons h]
    simp [h]
  simp only [sFrom]
  rw [e, sOn]
theorem sFrom_end {l : List (Int × Int)} {s : Int} (h : l.length ≤ l.length) (h0 : 0 < l.length) : sFrom l l.length s = [] := by
  obtain ⟨n, hn⟩ : ∃ n, l.length = n + 1 := ⟨l.length - 1, by omega⟩
  rw [hn]
  simp only [sFrom]
  rw [List.drop_eq_nil_of_le (by omega)]
  rfl

/-- What the loop holds. -/
structure BPInv (w wr : World) (l : List (Int × Int)) (i : Nat) (s : Int) (S : ByteArray) : Prop where
  says : ∃ d : List Nat, S = strB d ∧ putB l = d ++ bytesOf (sFrom l i s) ∧ d.length ≤ 10 + 20 * i
  step : 0 ≤ s ∧ s ≤ 1099511627776
  none : i = 0 → s = 0
  below : Below w.heap.size w wr

set_option maxRecDepth 100000 in
set_option maxHeartbeats 1000000 in
theorem rputblock_in (b off n cap : Nat) (l : List (Int × Int)) (w : World) (hl : l.length = n) (hS : Samps w (some ⟨b, off, none⟩) l) (hc : n ≤ cap) (hm : cap ≤ maxLen) (hok : BOk l) :
    Calls Tryz.prog 25 #[.slice (some ⟨b, off, none⟩) n cap] w fun e w' => e = .returned (.tuple #[.string (strB (putB l)), .int .i64 0]) ∧ Below w.heap.size w w' := by
  have m0 := fun w (h : Samps w (some ⟨b, off, none⟩) l) => rrising_any hl h hc hm
  rw [decide_eq_true hok.1] at m0
  have M0 := Lib.hid m0
  have M1 := Lib.hid (fun w => refput_any n w (by have := hok.2; omega))
  have hn64 : (n : Int) ≤ 64 := by have := hok.2; omega
  have HS := Lib.hid hS
  have HOK := Lib.hid hok
  have HL := Lib.hid hl
  clear m0 hS hok hl hm
  go_enter Tryz.func25, Tryz.ntmps25
  go_wp2_with fail
  refine (M0.out _ HS.out).mono ?_
  rintro e w1 ⟨rfl, hb1⟩
  have HB1 := Lib.hid hb1
  clear hb1
  go_wp2_with fail
  refine (M1.out _).mono ?_
  rintro e w2 ⟨rfl, hb2⟩
  have HI0 : Hid (BPInv w w2 l 0 0 (strB (enc n))) := Lib.hid ⟨⟨enc n, rfl, by unfold putB; rw [sFrom_zero, bytesOf_cons, HL.out], by have := enc_len_le (n := n) (by omega); omega⟩, by omega, fun _ => rfl, past HB1.out hb2⟩
  clear hb2 HB1 M0 M1
  generalize strB (enc n) = S0 at *
  go_wp2
  go_loopw [4, 5, 6] (fun s4 s5 s6 wr => ∃ (i : Nat) (s : Int) (S : ByteArray), i ≤ n ∧ s4 = .string S ∧ s5 = .int .i64 s ∧ s6 = .int .i64 (i : Int) ∧ Hid (BPInv w wr l i s S)) (fun _ _ s6 _ => n - (intOf s6).toNat)
  case atStart => exact ⟨0, 0, S0, by omega, rfl, rfl, rfl, HI0⟩
  case round =>
    clear HI0
    obtain ⟨i, s, S, hi, rfl, rfl, rfl, HI⟩ := hrel
    have hsz : S.size ≤ 1400 := by
      obtain ⟨d, e, _, hd⟩ := HI.out.says
      rw [e, strB_size]
      omega
    by_cases hlt : i < n
    · match i, hlt, hi, HI with
      | 0, hlt, hi, HI =>
        obtain ⟨x, r, hx⟩ : ∃ x r, l = x :: r := by
          match l, HL.out with
          | [], h => simp at h; omega
          | x :: r, _ => exact ⟨x, r, rfl⟩
        obtain ⟨t, v⟩ := x
        have hrise := (HOK.out.1 0 (by rw [HL.out]; exact hlt)).1
        have hin := HS.out.1 (t, v) (by rw [hx]; simp)
        have ht : Ag.begin_ t := by rw [hx] at hrise; exact hrise
        obtain ⟨T, hT⟩ : ∃ T : Nat, t = (T : Int) := ⟨t.toNat, by unfold Ag.begin_ at ht; omega⟩
        have hTM : T ≤ 1099511627776 := by unfold Ag.begin_ at ht; omega
        obtain ⟨z1, z2⟩ := zig_nat hin.2
        have m2 := fun w => refzig_any v w hin.2.1 hin.2.2
        generalize hZ : (zig v).toNat = Z at z1 z2
        rw [← z1] at m2
        have M2 := Lib.hid m2
        have P1 := Lib.hid (fun w => refput_any T w (by omega))
        have P2 := Lib.hid (fun w => refput_any Z w z2)
        have l1 : (strB (enc T)).size ≤ 10 := by rw [strB_size]; exact enc_len_le (by omega)
        have l2 : (strB (enc Z)).size ≤ 10 := by rw [strB_size]; exact enc_len_le z2
        have HN : Hid (∀ wr', Below w.heap.size w wr' → BPInv w wr' l 1 s (S ++ strB (enc T) ++ strB (enc Z))) := Lib.hid (fun wr' hb => by
          have hs0 := HI.out.none rfl
          obtain ⟨d, e, e2, hd⟩ := HI.out.says
          refine ⟨⟨d ++ enc T ++ enc Z, ?_, ?_, ?_⟩, by omega, fun h => absurd h (by omega), hb⟩
          · rw [e, strB_app, strB_app]
          · rw [hs0, e2, show sFrom l 0 s = sFrom l 0 0 from rfl, hx, sFrom_first, bytesOf_cons, bytesOf_cons]
            simp only
            rw [hT, hZ]
            simp
          · have := enc_len_le (n := T) (by omega)
            have := enc_len_le z2
            simp only [List.length_append]
            omega)
        have HC : Hid (∀ u : SubB wr, u.w.cell? ⟨b, off, none⟩ = some (.int .i64 (T : Int)) ∧ u.w.cell? ⟨b, off + 1, none⟩ = some (.int .i64 v)) := Lib.hid (fun u => by
          have hSu := HS.out.below (past HI.out.below u.le)
          obtain ⟨b', o', e, hcc⟩ := hSu.2 (by rw [HL.out]; exact hlt)
          injection e with e
          injection e with e1 e2
          subst e1 e2
          have := hcc 0 (by rw [HL.out]; exact hlt)
          rw [hx] at this
          simp only [Nat.zero_mul, Nat.add_zero, List.getD_cons_zero] at this
          rw [← hT]
          exact this)
        have D0 : ∀ u : SubB wr, u.w.cell? ⟨b, off, none⟩ = some (.int .i64 (T : Int)) := fun u => (HC.out u).1
        have D1 : ∀ u : SubB wr, u.w.cell? ⟨b, off + 1, none⟩ = some (.int .i64 v) := fun u => (HC.out u).2
        have HBW := Lib.hid HI.out.below
        have i0 : (0 : Int) < (n : Int) := by omega
        have hwT : IntKind.u64.wrap (T : Int) = (T : Int) := by rw [IntKind.wrap_u64]; omega
        clear hx hrise hin ht hT hZ z1 z2 m2 HC HI
        generalize strB (enc T) = E1 at *
        generalize strB (enc Z) = E2 at *
        go_upto_region 9 with fail
        refine wp_region_calm (by kernel_rfl) (by kernel_rfl) ?_
        repeat (go_big_quiet_step ((first | (go_at_call 56; exact calm_same (M2.out _)) | (go_at_call 24; with_reducible exact calm_call (P1.out _)) | (go_at_call 24; with_reducible exact calm_call (P2.out _)))))
        refine wpQuiet_nil ?_
        rintro _ ⟨u, rfl⟩
        clear D0 D1
        go_wp2
        go_roundw
        case rel => exact ⟨1, s, _, by omega, rfl, rfl, by go_num, Lib.hid (HN.out _ (past HBW.out u.le))⟩
        case measure => simp [intOf]; omega
      | i + 1, hlt, hi, HI =>
        have hr1 := HOK.out.1 (i + 1) (by rw [HL.out]; exact hlt)
        have hr0 := HOK.out.1 i (by rw [HL.out]; omega)
        have hup := hr1.2 (by omega)
        have hb1 := hr1.1
        have hb0 := hr0.1
        rw [Nat.add_sub_cancel] at hup
        unfold tAt at hup hb1 hb0
        have hin1 := HS.out.1 (l.getD (i + 1) (0, 0)) (by rw [List.getD_eq_getElem?_getD, List.getElem?_eq_getElem (by rw [HL.out]; exact hlt)]; exact List.getElem_mem _)
        have hin0 := HS.out.1 (l.getD i (0, 0)) (by rw [List.getD_eq_getElem?_getD, List.getElem?_eq_getElem (by rw [HL.out]; omega)]; exact List.getElem_mem _)
        have hnx := sFrom_next (l := l) (i := i) (s := s) (by rw [HL.out]; exact hlt)
        have HC : Hid (∀ w', Below wr.heap.size wr w' → (w'.cell? ⟨b, off + (i + 1) * 2, none⟩ = some (.int .i64 (l.getD (i + 1) (0, 0)).1) ∧ w'.cell? ⟨b, off + (i + 1) * 2 + 1, none⟩ = some (.int .i64 (l.getD (i + 1) (0, 0)).2)) ∧ (w'.cell? ⟨b, off + i * 2, none⟩ = some (.int .i64 (l.getD i (0, 0)).1) ∧ w'.cell? ⟨b, off + i * 2 + 1, none⟩ = some (.int .i64 (l.getD i (0, 0)).2))) := Lib.hid (fun w' hb => by
          have hSu := HS.out.below (past HI.out.below hb)
          obtain ⟨b', o', e, hcc⟩ := hSu.2 (by rw [HL.out]; omega)
          injection e with e
          injection e with e1 e2
          subst e1 e2
          exact ⟨hcc (i + 1) (by rw [HL.out]; exact hlt), hcc i (by rw [HL.out]; omega)⟩)
        generalize l.getD (i + 1) (0, 0) = x1 at *
        generalize l.getD i (0, 0) = x0 at *
        obtain ⟨t1, v1⟩ := x1
        obtain ⟨t0, v0⟩ := x0
        simp only at hup hb1 hb0 hin1 hin0 hnx HC
        have hst := HI.out.step
        unfold Ag.begin_ at hb1 hb0
        obtain ⟨dt, hdt⟩ : ∃ dt, t1 - t0 = dt := ⟨_, rfl⟩
        obtain ⟨D, hD⟩ : ∃ D, w64 (v1 - v0) = D := ⟨_, rfl⟩
        have hD64 : In64 D := hD ▸ w64_in _
        have hdd : In64 (dt - s) := by unfold In64; omega
        obtain ⟨y1, y2⟩ := zig_nat hdd
        obtain ⟨z1, z2⟩ := zig_nat hD64
        have m2 := fun w => refzig_any (dt - s) w hdd.1 hdd.2
        have m3 := fun w => refzig_any D w hD64.1 hD64.2
        rw [hdt, hD] at hnx
        generalize (zig (dt - s)).toNat = Y at *
        generalize (zig D).toNat = Z at *
        rw [← y1] at m2
        rw [← z1] at m3
        obtain ⟨U1, hU1⟩ : ∃ U1, IntKind.u64.wrap v1 = U1 := ⟨_, rfl⟩
        obtain ⟨U0, hU0⟩ : ∃ U0, IntKind.u64.wrap v0 = U0 := ⟨_, rfl⟩
        obtain ⟨UD, hUD⟩ : ∃ UD, IntKind.u64.wrap (U1 - U0) = UD := ⟨_, rfl⟩
        have hUI : IntKind.i64.wrap UD = D := by
          rw [← hD, ← hUD, ← hU1, ← hU0]
          simp only [IntKind.wrap_u64, IntKind.wrap_i64]
          unfold w64
          omega
        have hwd : IntKind.i64.wrap (t1 - t0) = dt := by rw [IntKind.wrap_i64]; omega
        obtain ⟨DS, hDS⟩ : ∃ DS, dt - s = DS := ⟨_, rfl⟩
        have hws : IntKind.i64.wrap (dt - s) = DS := by rw [IntKind.wrap_i64, ← hDS]; unfold In64 at hdd; omega
        rw [hDS] at m2
        have M2 := Lib.hid m2
        have M3 := Lib.hid m3
        have P1 := Lib.hid (fun w => refput_any Y w y2)
        have P2 := Lib.hid (fun w => refput_any Z w z2)
        have l1 : (strB (enc Y)).size ≤ 10 := by rw [strB_size]; exact enc_len_le y2
        have l2 : (strB (enc Z)).size ≤ 10 := by rw [strB_size]; exact enc_len_le z2
        have HN : Hid (∀ wr', Below w.heap.size w wr' → BPInv w wr' l (i + 2) dt (S ++ strB (enc Y) ++ strB (enc Z))) := Lib.hid (fun wr' hb => by
          obtain ⟨d, e, e2, hd⟩ := HI.out.says
          refine ⟨⟨d ++ enc Y ++ enc Z, ?_, ?_, ?_⟩, by omega, fun h => absurd h (by omega), hb⟩
          · rw [e, strB_app, strB_app]
          · rw [e2, hnx, bytesOf_cons, bytesOf_cons]
            simp
          · have := enc_len_le y2
            have := enc_len_le z2
            simp only [List.length_append]
            omega)
        have HBW := Lib.hid HI.out.below
        obtain ⟨⟨c1, c2⟩, ⟨c3, c4⟩⟩ := HC.out wr (Below.refl _ _)
        have i1 : ((i : Int) + 1) < (n : Int) := by omega
        have i2 : (0 : Int) ≤ (i : Int) + 1 := by omega
        have i3 : ((i : Int) + 1).toNat = i + 1 := by omega
        have i4 : IntKind.i64.wrap ((i : Int) + 1 - 1) = (i : Int) := by rw [IntKind.wrap_i64]; omega
        have i5 : (0 : Int) ≤ (i : Int) := by omega
        have i6 : (i : Int) < (n : Int) := by omega
        clear hr1 hr0 hup hb1 hb0 hin1 hin0 hnx hst hdt hD hD64 hdd y1 y2 z1 z2 m2 m3 hDS HI
        generalize strB (enc Y) = E1 at *
        generalize strB (enc Z) = E2 at *
        go_upto_region 10 with fail
        go_quiet (fail)
        clear c1 c2 c3 c4
        obtain ⟨⟨c1, c2⟩, ⟨c3, c4⟩⟩ := HC.out (wr.drewN nq) (belowN wr nq)
        have HBQ : Hid (Below w.heap.size w (wr.drewN nq)) := Lib.hid (past HBW.out (belowN wr nq))
        go_upto_region 11 with fail
        generalize wr.drewN nq = wq at *
        go_quiet (fail)
        clear c1 c2 c3 c4 hU1 hU0 hUD hUI hwd i4
        have HBQ2 : Hid (Below w.heap.size w (wq.drewN nq)) := Lib.hid (past HBQ.out (belowN wq nq))
        generalize wq.drewN nq = wx at *
        go_wp2_with fail
        refine (M2.out _).mono ?_
        rintro e w3 ⟨rfl, rfl⟩
        go_wp2_with fail
        refine (P1.out _).mono ?_
        rintro e w4 ⟨rfl, hb4⟩
        have HB4 : Hid (Below w.heap.size w w4) := Lib.hid (past HBQ2.out hb4)
        clear hb4
        go_wp2_with fail
        refine (M3.out _).mono ?_
        rintro e w5 ⟨rfl, rfl⟩
        go_wp2_with fail
        refine (P2.out _).mono ?_
        rintro e w6 ⟨rfl, hb6⟩
        have HB6 : Hid (Below w.heap.size w w6) := Lib.hid (past HB4.out hb6)
        clear hb6
        go_wp2
        go_roundw
        case rel => exact ⟨i + 2, dt, _, by omega, rfl, rfl, by go_num, Lib.hid (HN.out _ HB6.out)⟩
        case measure => simp [intOf]; omega
    · obtain rfl : i = n := by omega
      have HF : Hid (S = strB (putB l)) := Lib.hid (by
        obtain ⟨d, e, e2, _⟩ := HI.out.says
        have h3 : sFrom l i s = [] := by
          by_cases h0 : 0 < i
          · have := sFrom_end (l := l) (s := s) (Nat.le_refl _) (by have := HL.out; omega)
            rw [HL.out] at this
            exact this
          · have : i = 0 := by omega
            have h4 : l = [] := List.eq_nil_of_length_eq_zero (by have := HL.out; omega)
            rw [this, h4]
            rfl
        rw [e, e2, h3]
        simp [bytesOf])
      go_wp2
      (try rw [Exit.noGoto_ret])
      go_ret2
      exact ⟨by rw [← HF.out]; rfl, HI.out.below⟩

set_option maxRecDepth 100000 in
theorem rputblock_none (A : Option Addr) (cap : Nat) (w : World) (hm : cap ≤ maxLen) :
    Calls Tryz.prog 25 #[.slice A 0 cap] w fun e w' => e = .returned (.tuple #[.string (strB (putB [])), .int .i64 0]) ∧ Below w.heap.size w w' := by
  have m0 := fun w => rrising_any (A := A) (l := []) (len := 0) (cap := cap) (w := w) rfl ⟨by simp, fun h => absurd h (by simp)⟩ (by omega) hm
  rw [decide_eq_true (show Rise [] from fun i hi => by simp at hi)] at m0
  have M0 := Lib.hid m0
  have M1 : Hid (∀ w, Calls Tryz.prog 24 #[.int .u64 0] w fun e w' => e = .returned (.string (strB (enc 0))) ∧ Below w.heap.size w w') := Lib.hid (fun w => refput_any 0 w (by decide))
  have HP : Hid (putB [] = enc 0) := Lib.hid (by simp [putB, sNums, bytesOf])
  rw [HP.out]
  generalize strB (enc 0) = S0 at *
  clear m0 hm
  go_enter Tryz.func25, Tryz.ntmps25
  go_wp2_with fail
  refine (M0.out _).mono ?_
  rintro e w1 ⟨rfl, hb1⟩
  have HB1 := Lib.hid hb1
  clear hb1
  go_wp2_with fail
  refine (M1.out _).mono ?_
  rintro e w2 ⟨rfl, hb2⟩
  have HB2 : Hid (Below w.heap.size w w2) := Lib.hid (past HB1.out hb2)
  clear hb2
  go_wp2
  refine wp_loop_rounds 1 ?_
  rw [rounds_succ]
  go_wp2
  (try rw [Exit.noGoto_ret])
  go_ret2
  exact ⟨rfl, HB2.out⟩

set_option maxRecDepth 100000 in
theorem rputblock_not {A : Option Addr} {len cap : Nat} {l : List (Int × Int)} {w : World} (hl : l.length = len) (hS : Samps w A l) (hc : len ≤ cap) (hm : cap ≤ maxLen) (h : ¬ BOk l) :
    Calls Tryz.prog 25 #[.slice A len cap] w fun e w' => e = .returned (.tuple #[.string (strB []), .int .i64 1]) ∧ Below w.heap.size w w' := by
  have m0 := rrising_any hl hS hc hm
  have HE : Hid (strB [] = ⟨#[]⟩) := Lib.hid rfl
  by_cases hr : Rise l
  · have h64 : (64 : Int) < (len : Int) := by
      have : ¬ l.length ≤ 64 := fun h' => h ⟨hr, h'⟩
      omega
    rw [decide_eq_true hr] at m0
    have M0 := Lib.hid m0
    clear m0 hr h hS hl hc hm
    rw [HE.out]
    go_enter Tryz.func25, Tryz.ntmps25
    go_wp2_with fail
    refine M0.out.mono ?_
    rintro e w1 ⟨rfl, hb1⟩
    have HB1 := Lib.hid hb1
    clear hb1
    go_wp2
    (try rw [Exit.noGoto_ret])
    go_ret2
    exact ⟨rfl, HB1.out⟩
  · rw [decide_eq_false hr] at m0
    have M0 := Lib.hid m0
    clear m0 hr h hS hl hc hm
    rw [HE.out]
    go_enter Tryz.func25, Tryz.ntmps25
    go_wp2_with fail
    refine M0.out.mono ?_
    rintro e w1 ⟨rfl, hb1⟩
    have HB1 := Lib.hid hb1
    clear hb1
    go_wp2
    (try rw [Exit.noGoto_ret])
    go_ret2
    exact ⟨rfl, HB1.out⟩

theorem rputblock_any {A : Option Addr} {len cap : Nat} {l : List (Int × Int)} {w : World} (hl : l.length = len) (hS : Samps w A l) (hc : len ≤ cap) (hm : cap ≤ maxLen) :
    Calls Tryz.prog 25 #[.slice A len cap] w fun e w' => e = .returned (.tuple #[.string (strB (if BOk l then putB l else [])), .int .i64 (if BOk l then 0 else 1)]) ∧ Below w.heap.size w w' := by
  by_cases h : BOk l
  · rw [if_pos h, if_pos h]
    by_cases h0 : 0 < len
    · obtain ⟨b, off, rfl, _⟩ := hS.2 (by omega)
      exact rputblock_in b off len cap l w hl hS hc hm h
    · obtain rfl : len = 0 := by omega
      obtain rfl : l = [] := List.eq_nil_of_length_eq_zero hl
      exact rputblock_none A cap w hm
  · rw [if_neg h, if_neg h]
    exact rputblock_not hl hS hc hm h
end Go.Proofs.YtepancmkopifpaaGreatDoor
namespace Go.Proofs.YtepancmkopifpaaGreatDoor
open Go.RowKit
set_option linter.unusedVariables false

/-- The string s has the bytes bs. -/
def StrIs (s : ByteArray) (bs : List Nat) : Prop := s.size = bs.length ∧ (∀ c ∈ bs, c < 256) ∧ s.size ≤ 1000 ∧ ∀ j (h : j < s.size), (s[j]'h).toNat = bs.getD j 0
/-- The reader at block g stands at p; bad: it has met an error. -/
structure CAt (w : World) (g : Nat) (s : ByteArray) (p : Nat) (bad : Bool) : Prop where
  c0 : w.cell? ⟨g, 0, none⟩ = some (.string s)
  c1 : w.cell? ⟨g, 1, none⟩ = some (.int .i64 (p : Int))
  c2 : w.cell? ⟨g, 2, none⟩ = some (.bool bad)
  f1 : w.frozen? ⟨g, 1, none⟩ = false
  f2 : w.frozen? ⟨g, 2, none⟩ = false
theorem CAt.lt {w : World} {g : Nat} {s : ByteArray} {p : Nat} {bad : Bool} (h : CAt w g s p bad) : g < w.heap.size := World.block_lt_of_cell? w _ h.c0
theorem CAt.below {w w' : World} {g : Nat} {s : ByteArray} {p : Nat} {bad : Bool} (h : CAt w g s p bad) (hb : Below w.heap.size w w') : CAt w' g s p bad :=
  ⟨by rw [hb.cell h.lt]; exact h.c0, by rw [hb.cell h.lt]; exact h.c1, by rw [hb.cell h.lt]; exact h.c2, by rw [hb.frozen h.lt]; exact h.f1, by rw [hb.frozen h.lt]; exact h.f2⟩
/-- A number read at p: it, where the next one stands, whether there was none. -/
def numR (bs : List Nat) (p : Nat) : Bool → Nat × Nat × Bool
  | true => (0, p, true)
  | false => match dec 0 0 (bs.drop p) with
    | some (v, k) => (v, p + k, false)
    | none => (0, p, true)
theorem numR_le {bs : List Nat} {p : Nat} {bad : Bool} (hb : ∀ c ∈ bs, c < 256) (hp : p ≤ bs.length) : (numR bs p bad).2.1 ≤ bs.length ∧ (numR bs p bad).1 < 18446744073709551616 := by
  cases bad with
  | true => exact ⟨hp, by show 0 < 18446744073709551616; decide⟩
  | false =>
    unfold numR
    simp only
    split
    · next v k hd =>
      obtain ⟨n, e, h1, h2, h3, _⟩ := dec_only _ 0 0 v k (fun c hc => hb c (List.mem_of_mem_drop hc)) (by decide) hd
      simp only [Nat.pow_zero, Nat.mul_one, Nat.zero_add] at e h1
      rw [List.length_drop] at h3
      subst e
      exact ⟨by simp only; omega, h1⟩
    · exact ⟨hp, by show 0 < 18446744073709551616; decide⟩
theorem c_set {w : World} {g : Nat} {s : ByteArray} {p : Nat} {bad : Bool} (h : CAt w g s p bad) (p' : Nat) (bad' : Bool) : CAt ((w.setCell ⟨g, 1, none⟩ (.int .i64 (p' : Int))).setCell ⟨g, 2, none⟩ (.bool bad')) g s p' bad' := by
  obtain ⟨c0, c1, c2, f1, f2⟩ := h
  constructor <;> simp [go_sem, *]
theorem g_set (w : World) (g : Nat) (a b : Value) : w.grownBy ((w.setCell ⟨g, 1, none⟩ a).setCell ⟨g, 2, none⟩ b) (some g) :=
  ⟨rfl, rfl, rfl, by simp [World.setCell], fun k _ hk => by
    have hne : k ≠ g := fun e => hk (by rw [e])
    rw [Below.heap_setCell _ _ _ _ (fun e => hne e), Below.heap_setCell _ _ _ _ (fun e => hne e)]⟩
def NumPost (bs : List Nat) (g : Nat) (s : ByteArray) (p : Nat) (bad : Bool) (w : World) (e : Ending) (w' : World) : Prop :=
  e = .returned (.int .u64 ((numR bs p bad).1 : Int)) ∧ CAt w' g s (numR bs p bad).2.1 (numR bs p bad).2.2 ∧ w.grownBy w' (some g)

set_option maxRecDepth 100000 in
theorem num_bad (bs : List Nat) (g : Nat) (s : ByteArray) (p : Nat) (w : World) (h : CAt w g s p true) :
    Calls Tryz.prog 31 #[.pointer (some ⟨g, 0, none⟩)] w (NumPost bs g s p true w) := by
  have c2 := h.c2
  have H := Lib.hid h
  clear h
  go_enter Tryz.func31, Tryz.ntmps31
  go_wp2
  go_ret
  exact ⟨rfl, H.out, ⟨rfl, rfl, rfl, Nat.le_refl _, fun _ _ _ => rfl⟩⟩

set_option maxRecDepth 100000 in
set_option maxHeartbeats 1000000 in
theorem num_good (bs : List Nat) (g : Nat) (s : ByteArray) (p : Nat) (w : World) (h : CAt w g s p false) (hs : StrIs s bs) (hp : p ≤ bs.length) :
    Calls Tryz.prog 31 #[.pointer (some ⟨g, 0, none⟩)] w (NumPost bs g s p false w) := by
  obtain ⟨c0, c1, c2, f1, f2⟩ := h
  have m1 := fun w => refget_nat s bs p w hs.1 hs.2.1 hs.2.2.1 (by rw [hs.1]; exact hp) hs.2.2.2
  cases hd : dec 0 0 (bs.drop p) with
  | none =>
    rw [hd] at m1
    unfold getE at m1
    have M1 := Lib.hid m1
    have HN : Hid (numR bs p false = (0, p, true)) := Lib.hid (by unfold numR; simp only; rw [hd])
    have HA := Lib.hid (c_set (CAt.mk c0 c1 c2 f1 f2) p true)
    have HG := Lib.hid (g_set w g (.int .i64 (p : Int)) (.bool true))
    clear m1 hd hs hp
    go_enter Tryz.func31, Tryz.ntmps31
    go_upto_region 3 with fail
    go_quiet ((exact quiet_same (M1.out _)))
    go_wp2
    go_ret
    exact ⟨by rw [HN.out]; rfl, by rw [HN.out]; exact ⟨HA.out.c0, HA.out.c1, HA.out.c2, HA.out.f1, HA.out.f2⟩, ⟨HG.out.os, HG.out.tape, HG.out.output, HG.out.size, HG.out.block⟩⟩
  | some y =>
    obtain ⟨v, k⟩ := y
    rw [hd] at m1
    unfold getE at m1
    simp only at m1
    have HN : Hid (numR bs p false = (v, p + k, false)) := Lib.hid (by unfold numR; simp only; rw [hd])
    have HA := Lib.hid (c_set (CAt.mk c0 c1 c2 f1 f2) (p + k) false)
    have HG := Lib.hid (g_set w g (.int .i64 ((p + k : Nat) : Int)) (.bool false))
    generalize hq : p + k = q at *
    have M1 := Lib.hid m1
    clear m1 hd hs hp hq
    go_enter Tryz.func31, Tryz.ntmps31
    go_upto_region 3 with fail
    go_quiet ((exact quiet_same (M1.out _)))
    go_wp2
    go_ret
    exact ⟨by rw [HN.out]; rfl, by rw [HN.out]; exact ⟨HA.out.c0, HA.out.c1, HA.out.c2, HA.out.f1, HA.out.f2⟩, ⟨HG.out.os, HG.out.tape, HG.out.output, HG.out.size, HG.out.block⟩⟩
theorem num_any (bs : List Nat) (g : Nat) (s : ByteArray) (p : Nat) (bad : Bool) (w : World) (h : CAt w g s p bad) (hs : StrIs s bs) (hp : p ≤ bs.length) :
    Calls Tryz.prog 31 #[.pointer (some ⟨g, 0, none⟩)] w (NumPost bs g s p bad w) := by
  cases bad with
  | true => exact num_bad bs g s p w h
  | false => exact num_good bs g s p w h hs hp
end Go.Proofs.YtepancmkopifpaaGreatDoor
namespace Go.Proofs.YtepancmkopifpaaGreatDoor
set_option linter.unusedVariables false

theorem numR_at (a : List Nat) {n : Nat} (r : List Nat) (h : n < 18446744073709551616) : numR (a ++ (enc n ++ r)) a.length false = (n, a.length + (enc n).length, false) := by
  unfold numR
  simp only
  rw [List.drop_left, dec_enc0 n r h]
/-- Samples behind one: so many of them, unless there is an error. -/
def bOn (bs : List Nat) : Nat → Int → Int → Int → Nat → Bool → List (Int × Int) × Nat × Bool
  | 0, _, _, _, p, bad => ([], p, bad)
  | n + 1, t, v, s, p, bad =>
    if bad then ([], p, bad) else
    let a := numR bs p bad
    let c := numR bs a.2.1 a.2.2
    let s' := w64 (s + zag a.1)
    let x := (w64 (t + s'), w64 (v + zag c.1))
    let y := bOn bs n x.1 x.2 s' c.2.1 c.2.2
    (x :: y.1, y.2)
/-- All samples, unless there is an error. -/
def bAll (bs : List Nat) (n : Nat) (p : Nat) (bad : Bool) : List (Int × Int) × Nat × Bool :=
  match n with
  | 0 => ([], p, bad)
  | n + 1 => if bad then ([], p, bad) else
    let a := numR bs p bad
    let c := numR bs a.2.1 a.2.2
    let x := (w64 (a.1 : Int), zag (c.1 : Int))
    let y := bOn bs n x.1 x.2 0 c.2.1 c.2.2
    (x :: y.1, y.2)
def blk (bs : List Nat) : List (Int × Int) × Nat × Bool := bAll bs (numR bs 0 false).1 (numR bs 0 false).2.1 ((numR bs 0 false).2.2 || decide (64 < (numR bs 0 false).1))

theorem bOn_s : ∀ (l : List (Int × Int)) (t s v : Int) (a : List Nat), RiseOn t l → BIn l → 0 ≤ t → 0 ≤ s → s ≤ 1099511627776 → t ≤ 1099511627776 →
    bOn (a ++ bytesOf (sOn t s v l)) l.length t v s a.length false = (l, (a ++ bytesOf (sOn t s v l)).length, false)
  | [], t, s, v, a, _, _, _, _, _, _ => by simp [bOn, sOn, bytesOf]
  | x :: r, t, s, v, a, h, hi, h0, h1, h2, h3 => by
    obtain ⟨ha, hb, hr⟩ := h
    have hx := hi x (by simp)
    have hd : In64 (x.1 - t - s) := by unfold In64; omega
    obtain ⟨z1, z2⟩ := zig_nat hd
    obtain ⟨z3, z4⟩ := zig_nat (w64_in (x.2 - v))
    simp only [sOn, bytesOf_cons, List.length_cons, bOn, Bool.false_eq_true, if_false]
    rw [numR_at a _ z2]
    simp only
    have e0 : a ++ (enc (zig (x.1 - t - s)).toNat ++ (enc (zig (w64 (x.2 - v))).toNat ++ bytesOf (sOn x.1 (x.1 - t) x.2 r))) = (a ++ enc (zig (x.1 - t - s)).toNat) ++ (enc (zig (w64 (x.2 - v))).toNat ++ bytesOf (sOn x.1 (x.1 - t) x.2 r)) := by simp
    rw [e0, show a.length + (enc (zig (x.1 - t - s)).toNat).length = (a ++ enc (zig (x.1 - t - s)).toNat).length by simp, numR_at _ _ z4]
    simp only
    rw [z1, z3, zag_zig, zag_zig, w64_on hx.2]
    have e1 : w64 (s + (x.1 - t - s)) = x.1 - t := by rw [show s + (x.1 - t - s) = x.1 - t by omega]; exact w64_id (by unfold In64; omega)
    rw [e1]
    have e2 : w64 (t + (x.1 - t)) = x.1 := by rw [show t + (x.1 - t) = x.1 by omega]; exact w64_id hx.1
    rw [e2]
    have ih := bOn_s r x.1 (x.1 - t) x.2 ((a ++ enc (zig (x.1 - t - s)).toNat) ++ enc (zig (w64 (x.2 - v))).toNat) hr (fun y hy => hi y (by simp [hy])) (by omega) (by omega) (by omega) hb
    have e3 : (a ++ enc (zig (x.1 - t - s)).toNat) ++ (enc (zig (w64 (x.2 - v))).toNat ++ bytesOf (sOn x.1 (x.1 - t) x.2 r)) = ((a ++ enc (zig (x.1 - t - s)).toNat) ++ enc (zig (w64 (x.2 - v))).toNat) ++ bytesOf (sOn x.1 (x.1 - t) x.2 r) := by simp
    rw [e3, show (a ++ enc (zig (x.1 - t - s)).toNat).length + (enc (zig (w64 (x.2 - v))).toNat).length = ((a ++ enc (zig (x.1 - t - s)).toNat) ++ enc (zig (w64 (x.2 - v))).toNat).length by simp only [List.length_append], ih]
theorem blk_put {l : List (Int × Int)} (h : BOk l) (hi : BIn l) : (blk (putB l)).1 = l ∧ (blk (putB l)).2.2 = false := by
  have hr := (rise_iff l).1 h.1
  have hl := h.2
  match l, hr, hi, hl with
  | [], _, _, _ =>
    have e0 : putB [] = [] ++ (enc 0 ++ []) := by simp [putB, sNums, bytesOf]
    unfold blk
    rw [e0, show (0 : Nat) = ([] : List Nat).length from rfl, numR_at [] [] (by decide)]
    exact ⟨rfl, rfl⟩
  | x :: r, h, hi, hl =>
    obtain ⟨h0, h1, hr⟩ := h
    have hx := hi x (by simp)
    obtain ⟨z1, z2⟩ := zig_nat hx.2
    have hl' : r.length + 1 ≤ 64 := by simpa using hl
    have ht : ((x.1.toNat : Nat) : Int) = x.1 := by omega
    have e0 : putB (x :: r) = [] ++ (enc (r.length + 1) ++ (enc x.1.toNat ++ (enc (zig x.2).toNat ++ bytesOf (sOn x.1 0 x.2 r)))) := by simp [putB, sNums, bytesOf]
    have e1 : putB (x :: r) = enc (r.length + 1) ++ (enc x.1.toNat ++ (enc (zig x.2).toNat ++ bytesOf (sOn x.1 0 x.2 r))) := by rw [e0]; rfl
    have e2 : putB (x :: r) = (enc (r.length + 1) ++ enc x.1.toNat) ++ (enc (zig x.2).toNat ++ bytesOf (sOn x.1 0 x.2 r)) := by rw [e1]; simp
    have e3 : putB (x :: r) = ((enc (r.length + 1) ++ enc x.1.toNat) ++ enc (zig x.2).toNat) ++ bytesOf (sOn x.1 0 x.2 r) := by rw [e2]; simp
    have q0 : numR (putB (x :: r)) 0 false = (r.length + 1, (enc (r.length + 1)).length, false) := by
      rw [e0, show (0 : Nat) = ([] : List Nat).length from rfl, numR_at [] _ (by omega)]
      simp
    have q1 : numR (putB (x :: r)) (enc (r.length + 1)).length false = (x.1.toNat, (enc (r.length + 1) ++ enc x.1.toNat).length, false) := by
      rw [e1, numR_at _ _ (by omega)]
      simp
    have q2 : numR (putB (x :: r)) (enc (r.length + 1) ++ enc x.1.toNat).length false = ((zig x.2).toNat, ((enc (r.length + 1) ++ enc x.1.toNat) ++ enc (zig x.2).toNat).length, false) := by
      rw [e2, numR_at _ _ z2]
      simp only [List.length_append]
    have q3 := bOn_s r x.1 0 x.2 ((enc (r.length + 1) ++ enc x.1.toNat) ++ enc (zig x.2).toNat) hr (fun y hy => hi y (by simp [hy])) h0 (by omega) (by omega) h1
    rw [← e3] at q3
    unfold blk
    rw [q0]
    simp only
    rw [decide_eq_false (show ¬ 64 < r.length + 1 by omega)]
    simp only [Bool.or_false, bAll, Bool.false_eq_true, if_false]
    rw [q1]
    simp only
    rw [q2]
    simp only
    rw [ht, z1, zag_zig, w64_id hx.1, q3]
    exact ⟨rfl, rfl⟩
theorem bOn_in (bs : List Nat) : ∀ (n : Nat) (t v s : Int) (p : Nat) (bad : Bool), BIn (bOn bs n t v s p bad).1 ∧ (bOn bs n t v s p bad).1.length ≤ n
  | 0, t, v, s, p, bad => ⟨fun y hy => by simp [bOn] at hy, by simp [bOn]⟩
  | n + 1, t, v, s, p, bad => by
    rw [bOn]
    split
    · exact ⟨fun y hy => by simp at hy, by simp⟩
    · have ih := bOn_in bs n (w64 (t + w64 (s + zag (numR bs p bad).1))) (w64 (v + zag (numR bs (numR bs p bad).2.1 (numR bs p bad).2.2).1)) (w64 (s + zag (numR bs p bad).1)) (numR bs (numR bs p bad).2.1 (numR bs p bad).2.2).2.1 (numR bs (numR bs p bad).2.1 (numR bs p bad).2.2).2.2
      refine ⟨?_, by simp only [List.length_cons]; omega⟩
      intro y hy
      simp only [List.mem_cons] at hy
      rcases hy with rfl | hy
      · exact ⟨w64_in _, w64_in _⟩
      · exact ih.1 y hy
theorem blk_in {bs : List Nat} (hb : ∀ c ∈ bs, c < 256) : BIn (blk bs).1 := by
  unfold blk bAll
  split
  · exact fun y hy => by simp at hy
  · split
    · exact fun y hy => by simp at hy
    · intro y hy
      simp only [List.mem_cons] at hy
      rcases hy with rfl | hy
      · refine ⟨w64_in _, ?_⟩
        have h0 := numR_le (bs := bs) (p := 0) (bad := false) hb (by omega)
        have h1 := numR_le (bs := bs) (p := (numR bs 0 false).2.1) (bad := ((numR bs 0 false).2.2 || decide (64 < (numR bs 0 false).1))) hb h0.1
        have h2 := numR_le (bs := bs) (p := (numR bs (numR bs 0 false).2.1 ((numR bs 0 false).2.2 || decide (64 < (numR bs 0 false).1))).2.1) (bad := (numR bs (numR bs 0 false).2.1 ((numR bs 0 false).2.2 || decide (64 < (numR bs 0 false).1))).2.2) hb h1.1
        exact zag_range _ (by omega) (by omega)
      · exact (bOn_in bs _ _ _ _ _ _).1 y hy
/-- The document's own answer, and what bytes say. -/
theorem blk_says {bs : List Nat} (hb : ∀ c ∈ bs, c < 256) : getB bs = if (blk bs).2.2 = false ∧ BOk (blk bs).1 ∧ putB (blk bs).1 = bs then some (blk bs).1 else none := by
  split
  · next h =>
    have := getB_putB h.2.1 (blk_in hb)
    rw [h.2.2] at this
    exact this
  · next h =>
    cases e : getB bs with
    | none => rfl
    | some l =>
      obtain ⟨h1, h2, h3⟩ := putB_getB hb e
      obtain ⟨g1, g2⟩ := blk_put h2 h3
      rw [h1] at g1 g2
      exact absurd ⟨g2, by rw [g1]; exact h2, by rw [g1]; exact h1⟩ h
end Go.Proofs.YtepancmkopifpaaGreatDoor
