/-
  SameSeg of segments that read as one; Name of 3 and of 0: what each returns.
  What told asks of the segment (3, 0 to 10, a sample of 5 at 3): what each call returns.
-/
import Derived.Test.YtepancmkopifpaaDoorSSame
import Derived.Test.YtepancmkopifpaaDoorBSame
import Derived.Test.YtepancmkopifpaaDoorSInfo
import Derived.Test.YtepancmkopifpaaDoorSRollG
import Derived.Test.YtepancmkopifpaaDoorGMake
import Derived.Lib.MinMax
set_option maxRecDepth 100000
namespace Go.Proofs.YtepancmkopifpaaDoor
open Go.RowKit
attribute [local go_sem ↓] Go.wp_at_zero Go.wp_at_succ
set_option linter.unusedVariables false

set_option maxHeartbeats 1000000 in
theorem sameSeg_eq {i k f t : Int} {sm : List (Int × Int)} {ag : List Ag} {A A' B B' : Option Addr} {n ca m cb n' ca' m' cb' : Nat} {w : World} (h1 : SegAt w ⟨i, k, f, t, sm, ag⟩ A n ca B m cb) (h2 : SegAt w ⟨i, k, f, t, sm, ag⟩ A' n' ca' B' m' cb') :
    Calls Tryd.prog 20 #[.agg #[.int .i64 i, .int .i64 k, .int .i64 f, .int .i64 t, .slice A n ca, .slice B m cb], .agg #[.int .i64 i, .int .i64 k, .int .i64 f, .int .i64 t, .slice A' n' ca', .slice B' m' cb']] w fun e w' => e = .returned (.bool true) ∧ Below w.heap.size w w' := by
  obtain rfl : n = n' := by rw [← h1.sn, ← h2.sn]
  obtain rfl : m = m' := by rw [← h1.ag.1, ← h2.ag.1]
  have m1 := fun u (hu : Below w.heap.size w u) => sames_any h1.sn (h1.sm.below hu).samps (h2.sm.below hu).samps (by rw [← h1.sn]; exact h1.sm.le) (by rw [← h2.sn]; exact h2.sm.le) h1.sm.max h2.sm.max
  have m2 := fun u (hu : Below w.heap.size w u) => same_any (h1.below hu).ag (h2.below hu).ag
  have M1 := Lib.hid m1
  have M2 := Lib.hid m2
  clear h1 h2 m1 m2
  go_enter Tryd.func20, Tryd.ntmps20
  go_wp2_with fail
  refine (M1.out _ (past (below_box _ _) (below_box _ _))).mono ?_
  rintro e w2 ⟨rfl, hb2⟩
  have HB2 := Lib.hid (past (past (below_box _ _) (below_box _ _)) hb2)
  have c0 := ((SgV.new w i k f t (.slice A n ca) (.slice B m cb) 26).below (below_box _ (.cells #[.int .i64 i, .int .i64 k, .int .i64 f, .int .i64 t, .slice A' n ca', .slice B' m cb'] 26))).below hb2
  have c1 := (SgV.new (w.alloc (.cells #[.int .i64 i, .int .i64 k, .int .i64 f, .int .i64 t, .slice A n ca, .slice B m cb] 26)) i k f t (.slice A' n ca') (.slice B' m cb') 26).below hb2
  have d0 := c0.c5
  have d1 := c1.c5
  have e1 : (w.alloc (.cells #[.int .i64 i, .int .i64 k, .int .i64 f, .int .i64 t, .slice A n ca, .slice B m cb] 26)).heap.size = w.heap.size + 1 := by simp
  rw [e1] at d1
  clear c0 c1 hb2 e1
  go_wp2_with fail
  refine (M2.out _ HB2.out).mono ?_
  rintro e w3 ⟨rfl, hb3⟩
  have HB3 := Lib.hid (past HB2.out hb3)
  clear hb3
  go_wp2
  go_ret
  exact ⟨rfl, HB3.out⟩


set_option maxHeartbeats 400000 in
theorem small3 (w : World) : Calls Tryd.prog 79 #[.int .i64 3] w fun e w' => e = .returned (.string ⟨#[51]⟩) ∧ w = w' := by
  go_enter Tryd.func79, Tryd.ntmps79
  go_wp2
  (try simp only [Exit.inBlock, Exit.then])
  go_ret
  exact ⟨rfl, rfl⟩
set_option maxHeartbeats 400000 in
theorem format3 (w : World) : Calls Tryd.prog 72 #[.int .i64 3, .int .i64 10] w fun e w' => e = .returned (.string ⟨#[51]⟩) ∧ w = w' := by
  have M := Lib.hid small3
  go_enter Tryd.func72, Tryd.ntmps72
  go_wp2_with fail
  refine (M.out _).mono ?_
  rintro e w2 ⟨rfl, rfl⟩
  go_wp2
  (try simp only [Exit.inBlock, Exit.then])
  go_ret
  exact ⟨rfl, rfl⟩
theorem itoa3 (w : World) : Calls Tryd.prog 58 #[.int .i64 3] w fun e w' => e = .returned (.string ⟨#[51]⟩) ∧ w = w' := by
  have M := Lib.hid format3
  go_enter Tryd.func58, Tryd.ntmps58
  go_wp2_with fail
  refine (M.out _).mono ?_
  rintro e w2 ⟨rfl, rfl⟩
  go_wp2
  go_ret
  exact ⟨rfl, rfl⟩
theorem stritoa3 (w : World) : Calls Tryd.prog 39 #[.int .i64 3] w fun e w' => e = .returned (.string ⟨#[51]⟩) ∧ w = w' := by
  have M := Lib.hid itoa3
  go_enter Tryd.func39, Tryd.ntmps39
  go_wp2_with fail
  refine (M.out _).mono ?_
  rintro e w2 ⟨rfl, rfl⟩
  go_wp2
  go_ret
  exact ⟨rfl, rfl⟩
theorem name3 (w : World) : Calls Tryd.prog 21 #[.int .i64 3] w fun e w' => e = .returned (.string ⟨#[115, 51]⟩) ∧ w = w' := by
  have M := Lib.hid stritoa3
  go_enter Tryd.func21, Tryd.ntmps21
  go_wp2_with fail
  refine (M.out _).mono ?_
  rintro e w2 ⟨rfl, rfl⟩
  go_wp2
  go_ret
  exact ⟨rfl, rfl⟩
theorem name0 (w : World) : Calls Tryd.prog 21 #[.int .i64 0] w fun e w' => e = .returned (.string ⟨#[]⟩) ∧ w = w' := by
  go_enter Tryd.func21, Tryd.ntmps21
  go_wp2
  (try simp only [Exit.inBlock, Exit.then])
  go_ret
  exact ⟨rfl, rfl⟩
end Go.Proofs.YtepancmkopifpaaDoor
set_option maxRecDepth 100000
namespace Go.Proofs.YtepancmkopifpaaDoor
open Go.RowKit
attribute [local go_sem ↓] Go.wp_at_zero Go.wp_at_succ
set_option linter.unusedVariables false

def s0 : Sg := ⟨3, 0, 0, 10, [(3, 5)], []⟩
theorem s0_may : s0.may := by decide
theorem s0_ok : s0.ok := ⟨by decide, by decide, by decide, by decide, fun x hx => by
  have : x = (3, 5) := by simpa [s0] using hx
  subst this
  decide, fun a ha => by simp [s0] at ha⟩
theorem s0_raw : Raw0 s0 := ⟨s0_may, rfl, fun x hx => by
  have : x = (3, 5) := by simpa [s0] using hx
  subst this
  decide⟩
theorem s0_file : IsFile s0.bytes s0 := tier0_file s0_may s0_ok rfl
theorem s0_six : 6 < s0.bytes.length ∧ s0.bytes.length ≤ 1336 := by
  refine ⟨?_, tier0_len s0_may s0_ok rfl⟩
  rw [bytes_len]
  unfold Sg.body
  simp only [List.length_append, List.length_cons, List.length_nil, bytesOf_cons]
  have := enc_ne s0.id.toNat
  omega
theorem s0_head : s0.bytes.getD 0 0 = 84 := rfl
theorem s0_wins : wins 1 s0.sm = [⟨0, 1, 5, 5, 5, 5, 5⟩] := by
  show wins 1 [(3, 5)] = _
  rw [wins_cons 1 (3, 5) [] (c := 0) rfl]
  simp only [List.take_nil, List.map_nil, List.drop_nil]
  rw [wins]
  rfl
theorem s0_roll : rollS [s0] 4 1 = (⟨4, 1, 0, 10, [], [⟨0, 1, 5, 5, 5, 5, 5⟩]⟩, 0) := by
  rw [roll_raw s0_raw (by omega)]
  unfold Sg.at_
  rw [s0_wins]
  rfl
theorem s0_cut : readS (s0.bytes.take (s0.bytes.length - 1)) = none :=
  readS_none (fun c hc => bytes_byte _ c (List.mem_of_mem_take hc)) (fun s => file_cut s0_file (by have := s0_six; omega))

theorem tput {A : Option Addr} {ca : Nat} {w : World} (h : SegAt w s0 A 1 ca none 0 0) (hw : Wid w) :
    Calls Tryd.prog 8 #[.agg #[.int .i64 3, .int .i64 0, .int .i64 0, .int .i64 10, .slice A 1 ca, .slice none 0 0]] w fun e w' => ∃ AV cap, e = .returned (.tuple #[.slice AV s0.bytes.length cap, .int .i64 0]) ∧ BRow w' AV s0.bytes.length cap s0.bytes ∧ Below w.heap.size w w' := by
  refine (putG_any h hw).mono ?_
  rintro e w' ⟨h1, hb⟩
  have h1' : (if s0.may then if s0.bytes.length ≤ 4000 then ∃ v, e = .returned (.tuple #[v, .int .i64 0]) ∧ w'.ownsRow w.heap.size 5 1 v s0.bytes.length (bytesV s0.bytes) else e = .returned (.tuple #[.slice none 0 0, .int .i64 8]) else e = .returned (.tuple #[.slice none 0 0, .int .i64 1])) := h1
  rw [if_pos s0_may, if_pos (by have := s0_six; omega)] at h1'
  obtain ⟨v, rfl, hown⟩ := h1'
  obtain ⟨AV, cap, rfl, hr, _⟩ := brow_of_own hown (bytes_byte _)
  exact ⟨AV, cap, rfl, hr, hb⟩
theorem tget {AV : Option Addr} {cap : Nat} {w : World} (h : BRow w AV s0.bytes.length cap s0.bytes) (hw : Wid w) :
    Calls Tryd.prog 12 #[.slice AV s0.bytes.length cap] w fun e w' => ∃ A n ca B m cb, e = .returned (.tuple #[.agg #[.int .i64 3, .int .i64 0, .int .i64 0, .int .i64 10, .slice A n ca, .slice B m cb], .int .i64 0]) ∧ SegAt w' s0 A n ca B m cb ∧ Below w.heap.size w w' := by
  refine (getG_any h hw).mono ?_
  rintro e w' ⟨h1, hb⟩
  rw [(readS_iff (bytes_byte _)).2 s0_file] at h1
  obtain ⟨A, n, ca, B, m, cb, he, hs⟩ := h1
  exact ⟨A, n, ca, B, m, cb, he, hs.at_, hb⟩
theorem tinfo {AV : Option Addr} {cap : Nat} {w : World} (h : BRow w AV s0.bytes.length cap s0.bytes) (hw : Wid w) :
    Calls Tryd.prog 15 #[.slice AV s0.bytes.length cap] w fun e w' => ∃ S : Int, e = .returned (.tuple #[.agg #[.int .i64 3, .int .i64 0, .int .i64 0, .int .i64 10, .int .u32 S], .int .i64 0]) ∧ Below w.heap.size w w' := by
  refine (infoG_any h hw).mono ?_
  rintro e w' ⟨h1, hb⟩
  rw [(readS_iff (bytes_byte _)).2 s0_file] at h1
  exact ⟨_, h1, hb⟩
theorem tcut {AV : Option Addr} {cap : Nat} {w : World} (h : BRow w AV s0.bytes.length cap s0.bytes) (hw : Wid w) :
    Calls Tryd.prog 12 #[.slice AV (s0.bytes.length - 1) cap] w fun e w' => e = .returned (.tuple #[.agg #[.int .i64 0, .int .i64 0, .int .i64 0, .int .i64 0, .slice none 0 0, .slice none 0 0], .int .i64 2]) ∧ Below w.heap.size w w' := by
  refine (getG_any (h.take (show s0.bytes.length - 1 ≤ s0.bytes.length by omega)) hw).mono ?_
  rintro e w' ⟨h1, hb⟩
  rw [s0_cut] at h1
  exact ⟨h1, hb⟩
theorem segs_one {w : World} {s : Sg} {A : Option Addr} {n ca : Nat} {B : Option Addr} {m cb : Nat} (h : SegAt w s A n ca B m cb) :
    Segs (w.alloc (.cells #[.int .i64 s.id, .int .i64 s.tier, .int .i64 s.fr, .int .i64 s.tz, .slice A n ca, .slice B m cb] 26)) w.heap.size 0 [s] := fun j hj => by
  have hj0 : j = 0 := by simpa using hj
  subst hj0
  have hv := SgV.new w s.id s.tier s.fr s.tz (.slice A n ca) (.slice B m cb) 26
  refine ⟨A, n, ca, B, m, cb, ?_⟩
  simp only [Nat.zero_mul, Nat.zero_add]
  exact ⟨hv.c0, hv.c1, hv.c2, hv.c3, hv.c4, hv.c5, h.below (below_box _ _)⟩
theorem troll {A : Option Addr} {ca : Nat} {w : World} (h : SegAt w s0 A 1 ca none 0 0) (hw : Wid w) :
    Calls Tryd.prog 14 #[.slice (some ⟨w.heap.size, 0, none⟩) 1 1, .int .i64 4, .int .i64 1] (w.alloc (.cells #[.int .i64 3, .int .i64 0, .int .i64 0, .int .i64 10, .slice A 1 ca, .slice none 0 0] 26)) fun e w' => ∃ B cb, e = .returned (.tuple #[.agg #[.int .i64 4, .int .i64 1, .int .i64 0, .int .i64 10, .slice none 0 0, .slice B 1 cb], .int .i64 0]) ∧ RowOf w' B 1 cb [⟨0, 1, 5, 5, 5, 5, 5⟩] ∧ Below w.heap.size w w' := by
  have hs : Segs (w.alloc (.cells #[.int .i64 3, .int .i64 0, .int .i64 0, .int .i64 10, .slice A 1 ca, .slice none 0 0] 26)) w.heap.size 0 [s0] := segs_one h
  have hw2 := hw.below (below_box w (.cells #[.int .i64 3, .int .i64 0, .int .i64 0, .int .i64 10, .slice A 1 ca, .slice none 0 0] 26))
  refine (rollG_any (L := 1) (c := 1) hs rfl (by omega) (Nat.le_refl _) (by omega) (by unfold In64; omega) (by unfold In64; omega) hw2 (fun _ _ _ u hu => rolled_raw (hs.below hu) rfl (Nat.le_refl _) (by omega) (by decide) (by
    have := s0_ok.2.2.2.2.1
    intro x hx
    exact this x (by simpa using hx)) (hw2.below hu))).mono ?_
  rintro e w' ⟨B, m, cb, he, hr, hb⟩
  rw [s0_roll] at he hr
  obtain rfl : 1 = m := hr.1
  exact ⟨B, cb, he, hr, past (below_box _ _) hb⟩
end Go.Proofs.YtepancmkopifpaaDoor
