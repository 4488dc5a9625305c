/-
  The document's own reading of a line's words into a policy: what it returns, what it writes.
  The document's own reading of a line: three words, and any row of words.
  The document's own Parse: what it returns is what the program's returns; nothing that was there is written.
-/
import Derived.Test.YtdpoahjgdndnhaaDoorDWords
import Derived.Test.YtdpoahjgdndnhaaDoorPParse
import Derived.Deep.RegionHeld3
import Derived.Test.YtdpoahjgdndnhaaDoorERowS
import Derived.Deep.DeepCutAuto
import Derived.Test.YtdpoahjgdndnhaaDoorDMayP
set_option maxRecDepth 100000
namespace Go.Proofs.YtdpoahjgdndnhaaDoor
open Go.RowKit
attribute [local go_sem ↓] Go.wp_at_zero Go.wp_at_succ
set_option linter.unusedVariables false

/-- As Pol.put, the count as it is said. -/
def Pol.putD (p : Pol) (k : Nat) (n : Int) : Pol :=
  match k with
  | 0 => { p with a0 := n }
  | 1 => { p with a1 := n }
  | 2 => { p with a2 := n }
  | 3 => { p with a3 := n }
  | 4 => { p with cn := n }
  | _ => { p with sp := n }
theorem putD_hold {w : World} {g k : Nat} {p : Pol} (n : Int) (h : PHold w g p) (hk : k < 6) : PHold (w.setCell ⟨g, k, none⟩ (.int .i64 n)) g (p.putD k n) := by
  obtain ⟨h0, h1, h2, h3, h4, h5⟩ := h
  match k, hk with
  | 0, _ | 1, _ | 2, _ | 3, _ | 4, _ | 5, _ => unfold PHold Pol.putD; simp [go_sem, h0, h1, h2, h3, h4, h5]
/-- A policy and what was said, each in a block of its own. -/
structure LI (w : World) (gp gw : Nat) (p : Pol) (s : List Bool) : Prop where
  hp : PHold w gp p
  hs : BHold w gw s
  fp : Open6 w gp
  fs : Open6 w gw
  lp : gp < w.heap.size
  ls : gw < w.heap.size
  ne : gp ≠ gw
  len : s.length = 6
theorem LI.on {w w' : World} {gp gw : Nat} {p : Pol} {s : List Bool} (h : LI w gp gw p s) (hb : Below w.heap.size w w') : LI w' gp gw p s :=
  ⟨h.hp.below h.lp hb, h.hs.below h.ls hb, h.fp.below h.lp hb, h.fs.below h.ls hb, Nat.lt_of_lt_of_le h.lp hb.size, Nat.lt_of_lt_of_le h.ls hb.size, h.ne, h.len⟩
theorem open_set {w : World} {g g' k : Nat} {v : Value} (h : Open6 w g) : Open6 (w.setCell ⟨g', k, none⟩ v) g := fun i hi => by rw [World.frozen?_setCell]; exact h i hi
theorem LI.put {w : World} {gp gw k : Nat} {p : Pol} {s : List Bool} (h : LI w gp gw p s) (hk : k < 6) (n : Int) : LI ((w.setCell ⟨gp, k, none⟩ (.int .i64 n)).setCell ⟨gw, k, none⟩ (.bool true)) gp gw (p.putD k n) (s.set k true) := by
  have h1 := putD_hold n h.hp hk
  refine ⟨?_, ?_, open_set (open_set h.fp), open_set (open_set h.fs), by simpa using h.lp, by simpa using h.ls, h.ne, by rw [List.length_set]; exact h.len⟩
  · obtain ⟨a0, a1, a2, a3, a4, a5⟩ := h1
    have hn := h.ne
    exact ⟨by rw [setOther _ _ _ _ _ _ hn]; exact a0, by rw [setOther _ _ _ _ _ _ hn]; exact a1, by rw [setOther _ _ _ _ _ _ hn]; exact a2, by rw [setOther _ _ _ _ _ _ hn]; exact a3, by rw [setOther _ _ _ _ _ _ hn]; exact a4, by rw [setOther _ _ _ _ _ _ hn]; exact a5⟩
  · refine said_hold (fun i hi => ?_) hk h.len
    rw [setOther _ _ _ _ _ _ (fun e => h.ne e.symm)]
    exact h.hs i hi
/-- What a line does. -/
def lineD (ws : List (List UInt8)) (p : Pol) (s : List Bool) : Bool × Pol × List Bool :=
  if (readR ws).2.2 && !(s.getD (readR ws).1 false) then (true, p.putD (readR ws).1 (readR ws).2.1, s.set (readR ws).1 true) else (false, p, s)
def LinePost (w : World) (gp gw : Nat) (r : Bool × Pol × List Bool) (e : Ending) (w' : World) : Prop :=
  e = .returned (.bool r.1) ∧ LI w' gp gw r.2.1 r.2.2 ∧ ∀ B, B ≤ gp → B ≤ gw → B ≤ w.heap.size → Below B w w'
theorem LinePost.same {w w' : World} {gp gw : Nat} {p : Pol} {s : List Bool} (h : LI w gp gw p s) (hb : Below w.heap.size w w') : LinePost w gp gw (false, p, s) (.returned (.bool false)) w' :=
  ⟨rfl, h.on hb, fun B _ _ hB => hb.mono hB⟩
theorem LinePost.stored {w w1 : World} {gp gw k : Nat} {p : Pol} {s : List Bool} (h : LI w gp gw p s) (hb : Below w.heap.size w w1) (hk : k < 6) (n : Int) :
    LinePost w gp gw (true, p.putD k n, s.set k true) (.returned (.bool true)) ((w1.setCell ⟨gp, k, none⟩ (.int .i64 n)).setCell ⟨gw, k, none⟩ (.bool true)) :=
  ⟨rfl, (h.on hb).put hk n, fun B h1 h2 h3 => ((hb.mono h3).setCell h1 _).setCell h2 _⟩
theorem num_none {l : List UInt8} (h : (num l).getD (-1) < 0) : num l = none := by
  cases e : num l with
  | none => rfl
  | some v =>
    have := num_bound e
    rw [e] at h
    simp at h
    omega
theorem num_some {l : List UInt8} (h : ¬ (num l).getD (-1) < 0) : num l = some ((num l).getD (-1)) := by
  cases e : num l with
  | none => rw [e] at h; simp at h
  | some v => rfl
set_option maxHeartbeats 4000000 in
theorem line_few (gp gw : Nat) (A : Option Addr) (n cap : Nat) (ws : List (List UInt8)) (p : Pol) (s : List Bool) (w : World) (h : LI w gp gw p s) (h3 : n ≠ 3) (h2 : n ≠ 2) (hn : ws.length = n) :
    Calls Tryd.prog 73 #[.pointer (some ⟨gp, 0, none⟩), .slice (some ⟨gw, 0, none⟩) 6 6, .slice A n cap] w (LinePost w gp gw (lineD ws p s)) := by
  have e : lineD ws p s = (false, p, s) := by
    unfold lineD
    have : readR ws = (0, 0, false) := by
      match ws, hn with
      | [], _ => rfl
      | [_], _ => rfl
      | [_, _], hn => simp at hn; omega
      | [_, _, _], hn => simp at hn; omega
      | _ :: _ :: _ :: _ :: _, _ => rfl
    rw [this]
    rfl
  rw [e]
  have e3 : ((n : Int) == 3) = false := by simp; omega
  have e2 : ((n : Int) != 2) = true := by simp; omega
  have e2' : ¬ (n : Int) = 2 := by omega
  have HF := Lib.hid (LinePost.same h (Below.refl _ _))
  clear h h3 h2 hn e
  go_enter Tryd.func73, Tryd.ntmps73
  go_wp2
  go_ret
  exact HF.out
set_option maxHeartbeats 8000000 in
theorem line_two (gp gw g cap : Nat) (a b : List UInt8) (p : Pol) (s : List Bool) (w : World) (h : LI w gp gw p s) (hb : b.length < 4611686018427387904)
    (c0 : w.cell? ⟨g, 0, none⟩ = some (str a)) (c1 : w.cell? ⟨g, 1, none⟩ = some (str b)) (n1 : g ≠ gp) (n2 : g ≠ gw) :
    Calls Tryd.prog 73 #[.pointer (some ⟨gp, 0, none⟩), .slice (some ⟨gw, 0, none⟩) 6 6, .slice (some ⟨g, 0, none⟩) 2 cap] w (LinePost w gp gw (lineD [a, b] p s)) := by
  have M1 := Lib.hid (refnumber_any b w hb)
  unfold str at *
  obtain ⟨b0, h0⟩ : ∃ b0, (a == [115, 101, 97, 108]) = b0 := ⟨_, rfl⟩
  obtain ⟨b1, h1⟩ : ∃ b1, (a == [115, 112, 97, 110]) = b1 := ⟨_, rfl⟩
  have hT : readR [a, b] = if b0 then (4, (num b).getD 0, (num b).isSome) else if b1 then (5, (num b).getD 0, (num b).isSome) else (0, 0, false) := by
    rw [← h0, ← h1]
    unfold readR sealB span
    simp only [beq_iff_eq]
  obtain ⟨N, hN⟩ : ∃ N, N = (num b).getD (-1) := ⟨_, rfl⟩
  rw [← hN] at M1
  have HLI := Lib.hid h
  have HSAME := Lib.hid (LinePost.same h (Below.refl _ _))
  by_cases hneg : N < 0
  · have e : lineD [a, b] p s = (false, p, s) := by
      unfold lineD
      rw [hT, num_none (by rw [← hN]; exact hneg)]
      cases b0 <;> cases b1 <;> rfl
    rw [e]
    have i1 : N < 0 := hneg
    clear h hT hN e h0 h1 hneg
    go_enter Tryd.func73, Tryd.ntmps73
    go_wp2_with fail
    refine M1.out.mono ?_
    rintro e w' ⟨rfl, rfl⟩
    go_wp2
    go_ret
    exact HSAME.out
  have hsm := num_some (l := b) (by rw [← hN]; exact hneg)
  rw [← hN] at hsm
  rw [hsm] at hT
  simp only [Option.getD_some, Option.isSome_some] at hT
  have i1 : ¬ N < 0 := hneg
  have s4 := h.hs 4 (by decide)
  have s5 := h.hs 5 (by decide)
  have p4 := h.hp.2.2.2.2.1
  have p5 := h.hp.2.2.2.2.2
  have fp4 := h.fp 4 (by decide)
  have fp5 := h.fp 5 (by decide)
  have fs4 := h.fs 4 (by decide)
  have fs5 := h.fs 5 (by decide)
  have hne := h.ne
  have hne' : gw ≠ gp := fun e => hne e.symm
  obtain ⟨x4, hx4⟩ : ∃ x, x = s.getD 4 false := ⟨_, rfl⟩
  obtain ⟨x5, hx5⟩ : ∃ x, x = s.getD 5 false := ⟨_, rfl⟩
  rw [← hx4] at s4
  rw [← hx5] at s5
  have P4 := Lib.hid (LinePost.stored h (Below.refl _ _) (k := 4) (by decide) N)
  have P5 := Lib.hid (LinePost.stored h (Below.refl _ _) (k := 5) (by decide) N)
  have hL : lineD [a, b] p s = if b0 && !x4 then (true, p.putD 4 N, s.set 4 true) else if b1 && !b0 && !x5 then (true, p.putD 5 N, s.set 5 true) else (false, p, s) := by
    unfold lineD
    rw [hT, hx4, hx5]
    cases b0 <;> cases b1 <;> simp
  rw [hL]
  have hb01 : ¬ (b0 = true ∧ b1 = true) := by
    rintro ⟨e0, e1⟩
    rw [← h0, beq_iff_eq] at e0
    rw [← h1, beq_iff_eq] at e1
    rw [e0] at e1
    exact absurd e1 (by decide)
  clear hT hN hsm hneg hx4 hx5 hL h
  cases b0 <;> cases b1 <;> cases x4 <;> cases x5
  all_goals first | exact absurd ⟨rfl, rfl⟩ hb01 | skip
  all_goals
    clear hb01
    try simp only [Bool.not_true, Bool.not_false, Bool.and_true, Bool.and_false, if_true]
    go_enter Tryd.func73, Tryd.ntmps73
    go_wp2_with fail
    refine M1.out.mono ?_
    rintro e w' ⟨rfl, rfl⟩
    try (go_wp2_with fail
         refine M1.out.mono ?_
         rintro e w' ⟨rfl, rfl⟩)
    go_wp2
    go_ret
    first | exact HSAME.out | exact P4.out | exact P5.out
end Go.Proofs.YtdpoahjgdndnhaaDoor
set_option maxRecDepth 100000
namespace Go.Proofs.YtdpoahjgdndnhaaDoor
open Go.RowKit
attribute [local go_sem ↓] Go.wp_at_zero Go.wp_at_succ
set_option linter.unusedVariables false

theorem nameAt_inj : ∀ j k, j < 4 → k < 4 → nameAt j = nameAt k → j = k := by
  intro j k hj hk h
  match j, hj, k, hk with
  | 0, _, 0, _ | 1, _, 1, _ | 2, _, 2, _ | 3, _, 3, _ => rfl
  | 0, _, 1, _ | 0, _, 2, _ | 0, _, 3, _ | 1, _, 0, _ | 1, _, 2, _ | 1, _, 3, _ | 2, _, 0, _ | 2, _, 1, _ | 2, _, 3, _ | 3, _, 0, _ | 3, _, 1, _ | 3, _, 2, _ => exact absurd h (by decide)
theorem tier_some {b : List UInt8} {k : Nat} (hk : k < 4) (h : nameAt k = b) : tier b = some k := by
  subst h
  match k, hk with
  | 0, _ | 1, _ | 2, _ | 3, _ => decide
theorem tier_none {b : List UInt8} (h : ∀ k, k < 4 → nameAt k ≠ b) : tier b = none := by
  unfold tier
  rw [if_neg (h 0 (by decide)), if_neg (h 1 (by decide)), if_neg (h 2 (by decide)), if_neg (h 3 (by decide))]
theorem tier_is {b : List UInt8} {k : Nat} (h : tier b = some k) : k < 4 ∧ nameAt k = b := by
  unfold tier at h
  split at h
  · next e => cases h; exact ⟨by decide, e⟩
  split at h
  · next e => cases h; exact ⟨by decide, e⟩
  split at h
  · next e => cases h; exact ⟨by decide, e⟩
  split at h
  · next e => cases h; exact ⟨by decide, e⟩
  · cases h
theorem age_none {c : List UInt8} (h : (age c).getD (-1) < 0) : age c = none := by
  cases e : age c with
  | none => rfl
  | some v =>
    have := age_fits c
    rw [e] at h this
    simp at h this
    omega
theorem age_some {c : List UInt8} (h : 0 ≤ (age c).getD (-1)) : age c = some ((age c).getD (-1)) := by
  cases e : age c with
  | none => rw [e] at h; simp at h
  | some v => rfl
/-- Does the name at k stand there, with a number, for the first time? -/
def hit (b : List UInt8) (N : Int) (s : List Bool) (k : Nat) : Bool := (nameAt k == b) && (decide (N ≥ 0) && !(s.getD k false))
theorem line3_none {b c : List UInt8} {p : Pol} {s : List Bool} (h : ∀ k, k < 4 → hit b ((age c).getD (-1)) s k = false) : lineD [keep, b, c] p s = (false, p, s) := by
  unfold lineD readR
  simp only [if_true]
  cases ht : tier b with
  | none => simp
  | some k =>
    obtain ⟨hk, hb⟩ := tier_is ht
    have := h k hk
    unfold hit at this
    rw [hb] at this
    by_cases hn : (age c).getD (-1) < 0
    · rw [age_none hn]; simp
    · have h2 : (age c).getD (-1) ≥ 0 := by omega
      simp only [beq_self_eq_true, Bool.true_and, decide_eq_true h2] at this
      rw [age_some h2]
      simp only [Option.getD_some, Option.isSome_some, Bool.true_and]
      rw [this]
      rfl
theorem line3_some {b c : List UInt8} {p : Pol} {s : List Bool} {k : Nat} (hk : k < 4) (h : hit b ((age c).getD (-1)) s k = true) : lineD [keep, b, c] p s = (true, p.putD k ((age c).getD (-1)), s.set k true) := by
  unfold hit at h
  simp only [Bool.and_eq_true, beq_iff_eq, decide_eq_true_eq] at h
  obtain ⟨hb, hn, hs⟩ := h
  unfold lineD readR
  simp only [if_true]
  rw [tier_some hk hb, age_some hn]
  simp only [Option.getD_some, Option.isSome_some, Bool.true_and]
  rw [if_pos (by simpa using hs)]

set_option maxHeartbeats 8000000 in
theorem line_three (gp gw g cap : Nat) (a b c : List UInt8) (p : Pol) (s : List Bool) (w : World) (h : LI w gp gw p s) (hc : c.length < 4611686018427387904) (hg : g < w.heap.size)
    (c0 : w.cell? ⟨g, 0, none⟩ = some (str a)) (c1 : w.cell? ⟨g, 1, none⟩ = some (str b)) (c2 : w.cell? ⟨g, 2, none⟩ = some (str c)) :
    Calls Tryd.prog 73 #[.pointer (some ⟨gp, 0, none⟩), .slice (some ⟨gw, 0, none⟩) 6 6, .slice (some ⟨g, 0, none⟩) 3 cap] w (LinePost w gp gw (lineD [a, b, c] p s)) := by
  have M1 := Lib.hid (refnumber_any c w hc)
  obtain ⟨b0, h0⟩ : ∃ b0, (a == [107, 101, 101, 112]) = b0 := ⟨_, rfl⟩
  cases b0
  case false =>
    have e : lineD [a, b, c] p s = (false, p, s) := by
      unfold lineD readR
      have : ¬ a = keep := by
        intro e
        rw [e] at h0
        exact absurd h0 (by decide)
      simp [this]
    rw [e]
    have HSAME := Lib.hid (LinePost.same h (Below.refl _ _))
    unfold str at *
    clear h e c1 c2 M1
    go_enter Tryd.func73, Tryd.ntmps73
    go_wp2
    go_ret
    exact HSAME.out
  have ha : a = keep := by simpa [keep] using h0
  obtain ⟨bc, hbc⟩ : ∃ bc, (c == [101, 118, 101, 114]) = bc := ⟨_, rfl⟩
  obtain ⟨N, hN⟩ : ∃ N, N = (age c).getD (-1) := ⟨_, rfl⟩
  obtain ⟨R, hR⟩ : ∃ R, R = lineD [a, b, c] p s := ⟨_, rfl⟩
  rw [← hR]
  rw [ha] at hR
  have HNO : Hid ((∀ k, k < 4 → hit b N s k = false) → R = (false, p, s)) := Lib.hid (fun hh => by rw [hR]; rw [hN] at hh; exact line3_none hh)
  have HYE : Hid (∀ k, k < 4 → hit b N s k = true → R = (true, p.putD k N, s.set k true)) := Lib.hid (fun k hk hh => by rw [hR, hN]; rw [hN] at hh; exact line3_some hk hh)
  have HN : Hid (N = if bc then 0 else (num c).getD (-1)) := Lib.hid (by
    rw [hN]; unfold age
    cases bc with
    | true => rw [if_pos (by simpa [ever] using hbc)]; rfl
    | false => rw [if_neg (by simpa [ever] using hbc)]; rfl)
  have HL : Hid (Later w fun u => LI u gp gw p s ∧ u.cell? ⟨g, 1, none⟩ = some (str b)) := Lib.hid (fun u hu => ⟨h.on hu, by rw [hu.cell hg]; exact c1⟩)
  have HST : Hid (Below w.heap.size w w) := Lib.hid (Below.refl _ _)
  unfold str at *
  clear h hR hN ha hg
  go_enter Tryd.func73, Tryd.ntmps73
  go_wp2_with fail
  refine M1.out.mono ?_
  rintro e w' ⟨rfl, rfl⟩
  clear M1
  go_upto_if 25 with fail
  go_cut [7] (fun s7 wx => s7 = .int .i64 N ∧ wx = w)
  case first =>
    cases bc
    · go_wp2
      go_meet
      case rel => exact ⟨by rw [HN.out]; rfl, rfl⟩
    · go_wp2
      go_meet
      case rel => exact ⟨by rw [HN.out]; rfl, rfl⟩
  case rest =>
    obtain ⟨rfl, hwc⟩ := hcut
    rw [hwc]
    clear hwc HN c0 c1 c2 hc h0 hbc
    go_wp2
    go_loopw [6, 8] (fun s6 s8 wr => ∃ (k : Nat), s8 = .int .i64 (k : Int) ∧ k ≤ 4 ∧ (∃ v, s6 = .bool v) ∧ Hid (Below w.heap.size w wr ∧ ∀ j, j < k → hit b N s j = false)) (fun _ s8 _ => 4 - (intOf s8).toNat)
    case atStart => exact ⟨0, rfl, by omega, ⟨_, rfl⟩, Lib.hid ⟨HST.out, fun j hj => by omega⟩⟩
    obtain ⟨k, rfl, hk, ⟨v6, rfl⟩, HI⟩ := hrel
    by_cases hlt : k < 4
    · have i1 : (k : Int) < 4 := by omega
      obtain ⟨nm, hnm⟩ : ∃ nm, nameAt k = nm := ⟨_, rfl⟩
      obtain ⟨m, hm⟩ : ∃ m, (nm == b) = m := ⟨_, rfl⟩
      obtain ⟨nn, hnn⟩ : ∃ nn, decide (N ≥ 0) = nn := ⟨_, rfl⟩
      obtain ⟨sk, hsk⟩ : ∃ x, s.getD k false = x := ⟨_, rfl⟩
      have HH : Hid (hit b N s k = (m && (nn && !sk))) := Lib.hid (by unfold hit; rw [hnm, hm, hnn, hsk])
      have hS := HL.out wr HI.out.1
      have d1 := hS.2
      have d2 := hS.1.hs k (by omega)
      rw [hsk] at d2
      have HB : Hid (Below wr.heap.size wr wr.drew) := Lib.hid (below_drewN _ 1)
      have HNM : Hid (∀ (u : World) (g' : Nat), (∀ i, i < 4 → u.cell? ⟨g', i, none⟩ = some (str (nameAt i))) → u.cell? ⟨g', k, none⟩ = some (.string ⟨nm.toArray⟩)) := Lib.hid (fun u g' h => by rw [h k hlt, hnm]; rfl)
      have HS2 : Hid (Later wr fun u => u.cell? ⟨g, 1, none⟩ = some (.string ⟨b.toArray⟩) ∧ u.cell? ⟨gw, k, none⟩ = some (.bool sk)) := Lib.hid (fun u hu => by
        have h := HL.out u (past HI.out.1 hu)
        refine ⟨h.2, ?_⟩
        rw [h.1.hs k (by omega), hsk])
      have q3 : (k : Int).toNat = k := by omega
      clear hS hsk hnm
      have HEND : Hid (hit b N s k = false → ∀ j, j < k + 1 → hit b N s j = false) := Lib.hid (fun h j hj => by
        rcases Nat.lt_or_eq_of_le (Nat.le_of_lt_succ hj) with h2 | h2
        · exact HI.out.2 j h2
        · rw [h2]; exact h)
      have i4 : IntKind.i64.wrap ((k : Int) + 1) = ((k + 1 : Nat) : Int) := by rw [IntKind.wrap_i64]; omega
      go_wp2
      have i6 : (k : Int) < 6 := by omega
      cases m
      case false =>
        refine wp_region_noPanic ?_
        refine wp_region_held_drew (S := fun w' => w'.cell? ⟨g, 1, none⟩ = some (.string ⟨b.toArray⟩)) (by kernel_rfl) (by simpa using d1) (fun hHeld => ?_)
        refine wpAnyH_take (i := 1) (oi := { dst := some 31, op := Op.move (Operand.tmp 8), type := 3, pos := "ref.go:70", after := #[], guard := none }) (v := ?vTk1) rfl (by kernel_rfl) (by kernel_rfl) (by kernel_rfl) ?hqTk1 (Or.inl ⟨?waTk1, ?yTk1⟩) (by assumption) ?_
        case hqTk1 => exact fun _ _ _ h => h
        case waTk1 => rfl
        case yTk1 =>
          intro w1 hSw
          (try dsimp only at hSw)
          go_simp
          (try with_reducible rfl)
        try simp only [Act.put, List.setIfInBounds_toArray, List.set_cons_zero, List.set_cons_succ]
        refine wpAnyH_take (i := 4) (oi := { dst := some 34, op := Op.move (Operand.tmp 2), type := 89, pos := "ref.go:70", after := #[], guard := none }) (v := ?vTk2) rfl (by kernel_rfl) (by kernel_rfl) (by kernel_rfl) ?hqTk2 (Or.inl ⟨?waTk2, ?yTk2⟩) (by assumption) ?_
        case hqTk2 => exact fun _ _ _ h => h
        case waTk2 => rfl
        case yTk2 =>
          intro w1 hSw
          (try dsimp only at hSw)
          go_simp
          (try with_reducible rfl)
        try simp only [Act.put, List.setIfInBounds_toArray, List.set_cons_zero, List.set_cons_succ]
        refine wpAnyH_take (i := 5) (oi := { dst := some 35, op := Op.indexAddr 89 (Operand.tmp 34) (Operand.const (Value.int IntKind.i64 1)), type := 0, pos := "ref.go:70", after := #[{ on := 4, ground := Ground.data }], guard := none }) (v := ?vTk3) rfl (by kernel_rfl) (by kernel_rfl) (by kernel_rfl) ?hqTk3 (Or.inl ⟨?waTk3, ?yTk3⟩) (by assumption) ?_
        case hqTk3 => exact fun _ _ _ h => h
        case waTk3 => rfl
        case yTk3 =>
          intro w1 hSw
          (try dsimp only at hSw)
          go_simp
          (try with_reducible rfl)
        try simp only [Act.put, List.setIfInBounds_toArray, List.set_cons_zero, List.set_cons_succ]
        refine wpAnyH_take (i := 6) (oi := { dst := some 36, op := Op.load 9 (Operand.tmp 35), type := 9, pos := "ref.go:70", after := #[{ on := 5, ground := Ground.data }], guard := none }) (v := ?vTk4) rfl (by kernel_rfl) (by kernel_rfl) (by kernel_rfl) ?hqTk4 (Or.inl ⟨?waTk4, ?yTk4⟩) (by assumption) ?_
        case hqTk4 => exact fun _ _ _ h => h
        case waTk4 => rfl
        case yTk4 =>
          intro w1 hSw
          (try dsimp only at hSw)
          go_simp
          (try with_reducible rfl)
        try simp only [Act.put, List.setIfInBounds_toArray, List.set_cons_zero, List.set_cons_succ]
        refine wpAnyH_ready (rs := [0]) (by kernel_rfl) (by simp) ?_
        refine AllReadyH.cons (o := { dst := some 30, op := Op.call { callee := Callee.value (Operand.func 91), args := #[], argTypes := #[] }, type := 89, pos := "ref.go:70", after := #[], guard := none }) rfl (fun K hK => ?_) AllReadyH.nil
        go_simp
        refine (names_any _).mono ?_
        rintro e wt ⟨gn, rfl, _, _, hn, hb⟩
        have hbt := past HB.out hb
        have hS3 := (HS2.out wt hbt).1
        have hS4 := (HS2.out wt hbt).2
        have hnk := HNM.out wt gn hn
        clear hn hb
        try go_wp2_with fail
        refine hK.out _ _ hS3 (fun hHeld2 => ?_)
        clear hK K hHeld
        have hHeld := hHeld2
        clear hHeld2
        try simp only [Act.put, List.setIfInBounds_toArray, List.set_cons_zero, List.set_cons_succ]
        refine wpAnyH_take (i := 2) (oi := { dst := some 32, op := Op.indexAddr 89 (Operand.tmp 30) (Operand.tmp 31), type := 0, pos := "ref.go:70", after := #[{ on := 0, ground := Ground.data }, { on := 1, ground := Ground.data }], guard := none }) (v := ?vTk5) rfl (by kernel_rfl) (by kernel_rfl) (by kernel_rfl) ?hqTk5 (Or.inl ⟨?waTk5, ?yTk5⟩) (by assumption) ?_
        case hqTk5 => exact fun _ _ _ h => h
        case waTk5 => rfl
        case yTk5 =>
          intro w1 hSw
          (try dsimp only at hSw)
          go_simp
          (try with_reducible rfl)
        try simp only [Act.put, List.setIfInBounds_toArray, List.set_cons_zero, List.set_cons_succ]
        refine wpAnyH_ready (rs := [3]) (by kernel_rfl) (by simp) ?_
        refine AllReadyH.cons (o := { dst := some 33, op := Op.load 9 (Operand.tmp 32), type := 9, pos := "ref.go:70", after := #[{ on := 2, ground := Ground.data }], guard := none }) rfl (fun K hK => ?_) AllReadyH.nil
        go_simp
        refine hK.out _ _ hS3 (fun hHeld2 => ?_)
        clear hK K hHeld
        have hHeld := hHeld2
        clear hHeld2
        try simp only [Act.put, List.setIfInBounds_toArray, List.set_cons_zero, List.set_cons_succ]
        refine wpAnyH_take (i := 7) (oi := { dst := some 37, op := Op.binOp BinOp.eql 9 (Operand.tmp 33) (Operand.tmp 36) 9, type := 4, pos := "ref.go:70", after := #[{ on := 3, ground := Ground.data }, { on := 6, ground := Ground.data }], guard := none }) (v := ?vTk6) rfl (by kernel_rfl) (by kernel_rfl) (by kernel_rfl) ?hqTk6 (Or.inl ⟨?waTk6, ?yTk6⟩) (by assumption) ?_
        case hqTk6 => exact fun _ _ _ h => h
        case waTk6 => rfl
        case yTk6 =>
          intro w1 hSw
          (try dsimp only at hSw)
          go_simp
          (try with_reducible rfl)
        try simp only [Act.put, List.setIfInBounds_toArray, List.set_cons_zero, List.set_cons_succ]
        refine wpAnyH_take (i := 8) (oi := { dst := some 38, op := Op.move (Operand.tmp 37), type := 4, pos := "ref.go:70", after := #[{ on := 7, ground := Ground.data }, { on := 0, ground := Ground.chain }], guard := none }) (v := ?vTk7) rfl (by kernel_rfl) (by kernel_rfl) (by kernel_rfl) ?hqTk7 (Or.inl ⟨?waTk7, ?yTk7⟩) (by assumption) ?_
        case hqTk7 => exact fun _ _ _ h => h
        case waTk7 => rfl
        case yTk7 =>
          intro w1 hSw
          (try dsimp only at hSw)
          go_simp
          (try with_reducible rfl)
        try simp only [Act.put, List.setIfInBounds_toArray, List.set_cons_zero, List.set_cons_succ]
        refine wpAnyH_take (i := 9) (oi := { dst := some 39, op := Op.move (Operand.tmp 7), type := 2, pos := "ref.go:70", after := #[{ on := 8, ground := Ground.guard }], guard := some (8, true) }) (v := undef) rfl (by kernel_rfl) (by kernel_rfl) (by kernel_rfl) ?hqTk8 (Or.inr ⟨?waTk8, rfl⟩) (by assumption) ?_
        case hqTk8 => exact fun _ _ _ h => h
        case waTk8 => rfl
        try simp only [Act.put, List.setIfInBounds_toArray, List.set_cons_zero, List.set_cons_succ]
        refine wpAnyH_take (i := 10) (oi := { dst := some 40, op := Op.binOp BinOp.geq 2 (Operand.tmp 39) (Operand.const (Value.int IntKind.i64 0)) 2, type := 4, pos := "ref.go:70", after := #[{ on := 9, ground := Ground.data }, { on := 8, ground := Ground.guard }], guard := some (8, true) }) (v := undef) rfl (by kernel_rfl) (by kernel_rfl) (by kernel_rfl) ?hqTk9 (Or.inr ⟨?waTk9, rfl⟩) (by assumption) ?_
        case hqTk9 => exact fun _ _ _ h => h
        case waTk9 => rfl
        try simp only [Act.put, List.setIfInBounds_toArray, List.set_cons_zero, List.set_cons_succ]
        refine wpAnyH_take (i := 11) (oi := { dst := some 41, op := Op.pick (Operand.tmp 38) (Operand.tmp 40) (Operand.const (Value.bool false)), type := 4, pos := "ref.go:70", after := #[{ on := 8, ground := Ground.data }, { on := 10, ground := Ground.data }], guard := none }) (v := ?vTk10) rfl (by kernel_rfl) (by kernel_rfl) (by kernel_rfl) ?hqTk10 (Or.inl ⟨?waTk10, ?yTk10⟩) (by assumption) ?_
        case hqTk10 => exact fun _ _ _ h => h
        case waTk10 => rfl
        case yTk10 =>
          intro w1 hSw
          (try dsimp only at hSw)
          go_simp
          (try with_reducible rfl)
        try simp only [Act.put, List.setIfInBounds_toArray, List.set_cons_zero, List.set_cons_succ]
        refine wpAnyH_take (i := 12) (oi := { dst := some 42, op := Op.move (Operand.tmp 41), type := 4, pos := "ref.go:70", after := #[{ on := 11, ground := Ground.data }, { on := 8, ground := Ground.chain }], guard := none }) (v := ?vTk11) rfl (by kernel_rfl) (by kernel_rfl) (by kernel_rfl) ?hqTk11 (Or.inl ⟨?waTk11, ?yTk11⟩) (by assumption) ?_
        case hqTk11 => exact fun _ _ _ h => h
        case waTk11 => rfl
        case yTk11 =>
          intro w1 hSw
          (try dsimp only at hSw)
          go_simp
          (try with_reducible rfl)
        try simp only [Act.put, List.setIfInBounds_toArray, List.set_cons_zero, List.set_cons_succ]
        refine wpAnyH_take (i := 13) (oi := { dst := some 43, op := Op.move (Operand.tmp 1), type := 110, pos := "ref.go:70", after := #[{ on := 12, ground := Ground.guard }], guard := some (12, true) }) (v := undef) rfl (by kernel_rfl) (by kernel_rfl) (by kernel_rfl) ?hqTk12 (Or.inr ⟨?waTk12, rfl⟩) (by assumption) ?_
        case hqTk12 => exact fun _ _ _ h => h
        case waTk12 => rfl
        try simp only [Act.put, List.setIfInBounds_toArray, List.set_cons_zero, List.set_cons_succ]
        refine wpAnyH_take (i := 14) (oi := { dst := some 44, op := Op.move (Operand.tmp 8), type := 3, pos := "ref.go:70", after := #[{ on := 12, ground := Ground.guard }], guard := some (12, true) }) (v := undef) rfl (by kernel_rfl) (by kernel_rfl) (by kernel_rfl) ?hqTk13 (Or.inr ⟨?waTk13, rfl⟩) (by assumption) ?_
        case hqTk13 => exact fun _ _ _ h => h
        case waTk13 => rfl
        try simp only [Act.put, List.setIfInBounds_toArray, List.set_cons_zero, List.set_cons_succ]
        refine wpAnyH_take (i := 15) (oi := { dst := some 45, op := Op.indexAddr 110 (Operand.tmp 43) (Operand.tmp 44), type := 0, pos := "ref.go:70", after := #[{ on := 13, ground := Ground.data }, { on := 14, ground := Ground.data }, { on := 12, ground := Ground.guard }], guard := some (12, true) }) (v := undef) rfl (by kernel_rfl) (by kernel_rfl) (by kernel_rfl) ?hqTk14 (Or.inr ⟨?waTk14, rfl⟩) (by assumption) ?_
        case hqTk14 => exact fun _ _ _ h => h
        case waTk14 => rfl
        try simp only [Act.put, List.setIfInBounds_toArray, List.set_cons_zero, List.set_cons_succ]
        refine wpAnyH_take (i := 16) (oi := { dst := some 46, op := Op.load 4 (Operand.tmp 45), type := 4, pos := "ref.go:70", after := #[{ on := 15, ground := Ground.data }, { on := 12, ground := Ground.guard }], guard := some (12, true) }) (v := undef) rfl (by kernel_rfl) (by kernel_rfl) (by kernel_rfl) ?hqTk15 (Or.inr ⟨?waTk15, rfl⟩) (by assumption) ?_
        case hqTk15 => exact fun _ _ _ h => h
        case waTk15 => rfl
        try simp only [Act.put, List.setIfInBounds_toArray, List.set_cons_zero, List.set_cons_succ]
        refine wpAnyH_take (i := 17) (oi := { dst := some 47, op := Op.unOp UnOp.not 4 (Operand.tmp 46), type := 4, pos := "ref.go:70", after := #[{ on := 16, ground := Ground.data }, { on := 12, ground := Ground.guard }], guard := some (12, true) }) (v := undef) rfl (by kernel_rfl) (by kernel_rfl) (by kernel_rfl) ?hqTk16 (Or.inr ⟨?waTk16, rfl⟩) (by assumption) ?_
        case hqTk16 => exact fun _ _ _ h => h
        case waTk16 => rfl
        try simp only [Act.put, List.setIfInBounds_toArray, List.set_cons_zero, List.set_cons_succ]
        refine wpAnyH_take (i := 18) (oi := { dst := some 48, op := Op.pick (Operand.tmp 42) (Operand.tmp 47) (Operand.const (Value.bool false)), type := 4, pos := "ref.go:70", after := #[{ on := 12, ground := Ground.data }, { on := 17, ground := Ground.data }], guard := none }) (v := ?vTk17) rfl (by kernel_rfl) (by kernel_rfl) (by kernel_rfl) ?hqTk17 (Or.inl ⟨?waTk17, ?yTk17⟩) (by assumption) ?_
        case hqTk17 => exact fun _ _ _ h => h
        case waTk17 => rfl
        case yTk17 =>
          intro w1 hSw
          (try dsimp only at hSw)
          go_simp
          (try with_reducible rfl)
        try simp only [Act.put, List.setIfInBounds_toArray, List.set_cons_zero, List.set_cons_succ]
        refine wpAnyH_done (by kernel_rfl) ?_ _
        refine NoPanic.normal ?_
        go_wp2
        go_roundw
        case rel => exact ⟨k + 1, by go_num, by omega, ⟨_, rfl⟩, Lib.hid ⟨past HI.out.1 hbt, HEND.out (by rw [HH.out]; rfl)⟩⟩
        case measure => simp [intOf]; omega
      cases nn
      case false =>
        refine wp_region_noPanic ?_
        refine wp_region_held_drew (S := fun w' => w'.cell? ⟨g, 1, none⟩ = some (.string ⟨b.toArray⟩)) (by kernel_rfl) (by simpa using d1) (fun hHeld => ?_)
        refine wpAnyH_take (i := 1) (oi := { dst := some 31, op := Op.move (Operand.tmp 8), type := 3, pos := "ref.go:70", after := #[], guard := none }) (v := ?vTk18) rfl (by kernel_rfl) (by kernel_rfl) (by kernel_rfl) ?hqTk18 (Or.inl ⟨?waTk18, ?yTk18⟩) (by assumption) ?_
        case hqTk18 => exact fun _ _ _ h => h
        case waTk18 => rfl
        case yTk18 =>
          intro w1 hSw
          (try dsimp only at hSw)
          go_simp
          (try with_reducible rfl)
        try simp only [Act.put, List.setIfInBounds_toArray, List.set_cons_zero, List.set_cons_succ]
        refine wpAnyH_take (i := 4) (oi := { dst := some 34, op := Op.move (Operand.tmp 2), type := 89, pos := "ref.go:70", after := #[], guard := none }) (v := ?vTk19) rfl (by kernel_rfl) (by kernel_rfl) (by kernel_rfl) ?hqTk19 (Or.inl ⟨?waTk19, ?yTk19⟩) (by assumption) ?_
        case hqTk19 => exact fun _ _ _ h => h
        case waTk19 => rfl
        case yTk19 =>
          intro w1 hSw
          (try dsimp only at hSw)
          go_simp
          (try with_reducible rfl)
        try simp only [Act.put, List.setIfInBounds_toArray, List.set_cons_zero, List.set_cons_succ]
        refine wpAnyH_take (i := 5) (oi := { dst := some 35, op := Op.indexAddr 89 (Operand.tmp 34) (Operand.const (Value.int IntKind.i64 1)), type := 0, pos := "ref.go:70", after := #[{ on := 4, ground := Ground.data }], guard := none }) (v := ?vTk20) rfl (by kernel_rfl) (by kernel_rfl) (by kernel_rfl) ?hqTk20 (Or.inl ⟨?waTk20, ?yTk20⟩) (by assumption) ?_
        case hqTk20 => exact fun _ _ _ h => h
        case waTk20 => rfl
        case yTk20 =>
          intro w1 hSw
          (try dsimp only at hSw)
          go_simp
          (try with_reducible rfl)
        try simp only [Act.put, List.setIfInBounds_toArray, List.set_cons_zero, List.set_cons_succ]
        refine wpAnyH_take (i := 6) (oi := { dst := some 36, op := Op.load 9 (Operand.tmp 35), type := 9, pos := "ref.go:70", after := #[{ on := 5, ground := Ground.data }], guard := none }) (v := ?vTk21) rfl (by kernel_rfl) (by kernel_rfl) (by kernel_rfl) ?hqTk21 (Or.inl ⟨?waTk21, ?yTk21⟩) (by assumption) ?_
        case hqTk21 => exact fun _ _ _ h => h
        case waTk21 => rfl
        case yTk21 =>
          intro w1 hSw
          (try dsimp only at hSw)
          go_simp
          (try with_reducible rfl)
        try simp only [Act.put, List.setIfInBounds_toArray, List.set_cons_zero, List.set_cons_succ]
        refine wpAnyH_ready (rs := [0]) (by kernel_rfl) (by simp) ?_
        refine AllReadyH.cons (o := { dst := some 30, op := Op.call { callee := Callee.value (Operand.func 91), args := #[], argTypes := #[] }, type := 89, pos := "ref.go:70", after := #[], guard := none }) rfl (fun K hK => ?_) AllReadyH.nil
        go_simp
        refine (names_any _).mono ?_
        rintro e wt ⟨gn, rfl, _, _, hn, hb⟩
        have hbt := past HB.out hb
        have hS3 := (HS2.out wt hbt).1
        have hS4 := (HS2.out wt hbt).2
        have hnk := HNM.out wt gn hn
        clear hn hb
        try go_wp2_with fail
        refine hK.out _ _ hS3 (fun hHeld2 => ?_)
        clear hK K hHeld
        have hHeld := hHeld2
        clear hHeld2
        try simp only [Act.put, List.setIfInBounds_toArray, List.set_cons_zero, List.set_cons_succ]
        refine wpAnyH_take (i := 2) (oi := { dst := some 32, op := Op.indexAddr 89 (Operand.tmp 30) (Operand.tmp 31), type := 0, pos := "ref.go:70", after := #[{ on := 0, ground := Ground.data }, { on := 1, ground := Ground.data }], guard := none }) (v := ?vTk22) rfl (by kernel_rfl) (by kernel_rfl) (by kernel_rfl) ?hqTk22 (Or.inl ⟨?waTk22, ?yTk22⟩) (by assumption) ?_
        case hqTk22 => exact fun _ _ _ h => h
        case waTk22 => rfl
        case yTk22 =>
          intro w1 hSw
          (try dsimp only at hSw)
          go_simp
          (try with_reducible rfl)
        try simp only [Act.put, List.setIfInBounds_toArray, List.set_cons_zero, List.set_cons_succ]
        refine wpAnyH_ready (rs := [3]) (by kernel_rfl) (by simp) ?_
        refine AllReadyH.cons (o := { dst := some 33, op := Op.load 9 (Operand.tmp 32), type := 9, pos := "ref.go:70", after := #[{ on := 2, ground := Ground.data }], guard := none }) rfl (fun K hK => ?_) AllReadyH.nil
        go_simp
        refine hK.out _ _ hS3 (fun hHeld2 => ?_)
        clear hK K hHeld
        have hHeld := hHeld2
        clear hHeld2
        try simp only [Act.put, List.setIfInBounds_toArray, List.set_cons_zero, List.set_cons_succ]
        refine wpAnyH_take (i := 7) (oi := { dst := some 37, op := Op.binOp BinOp.eql 9 (Operand.tmp 33) (Operand.tmp 36) 9, type := 4, pos := "ref.go:70", after := #[{ on := 3, ground := Ground.data }, { on := 6, ground := Ground.data }], guard := none }) (v := ?vTk23) rfl (by kernel_rfl) (by kernel_rfl) (by kernel_rfl) ?hqTk23 (Or.inl ⟨?waTk23, ?yTk23⟩) (by assumption) ?_
        case hqTk23 => exact fun _ _ _ h => h
        case waTk23 => rfl
        case yTk23 =>
          intro w1 hSw
          (try dsimp only at hSw)
          go_simp
          (try with_reducible rfl)
        try simp only [Act.put, List.setIfInBounds_toArray, List.set_cons_zero, List.set_cons_succ]
        refine wpAnyH_take (i := 8) (oi := { dst := some 38, op := Op.move (Operand.tmp 37), type := 4, pos := "ref.go:70", after := #[{ on := 7, ground := Ground.data }, { on := 0, ground := Ground.chain }], guard := none }) (v := ?vTk24) rfl (by kernel_rfl) (by kernel_rfl) (by kernel_rfl) ?hqTk24 (Or.inl ⟨?waTk24, ?yTk24⟩) (by assumption) ?_
        case hqTk24 => exact fun _ _ _ h => h
        case waTk24 => rfl
        case yTk24 =>
          intro w1 hSw
          (try dsimp only at hSw)
          go_simp
          (try with_reducible rfl)
        try simp only [Act.put, List.setIfInBounds_toArray, List.set_cons_zero, List.set_cons_succ]
        refine wpAnyH_take (i := 9) (oi := { dst := some 39, op := Op.move (Operand.tmp 7), type := 2, pos := "ref.go:70", after := #[{ on := 8, ground := Ground.guard }], guard := some (8, true) }) (v := ?vTk25) rfl (by kernel_rfl) (by kernel_rfl) (by kernel_rfl) ?hqTk25 (Or.inl ⟨?waTk25, ?yTk25⟩) (by assumption) ?_
        case hqTk25 => exact fun _ _ _ h => h
        case waTk25 => rfl
        case yTk25 =>
          intro w1 hSw
          (try dsimp only at hSw)
          go_simp
          (try with_reducible rfl)
        try simp only [Act.put, List.setIfInBounds_toArray, List.set_cons_zero, List.set_cons_succ]
        refine wpAnyH_take (i := 10) (oi := { dst := some 40, op := Op.binOp BinOp.geq 2 (Operand.tmp 39) (Operand.const (Value.int IntKind.i64 0)) 2, type := 4, pos := "ref.go:70", after := #[{ on := 9, ground := Ground.data }, { on := 8, ground := Ground.guard }], guard := some (8, true) }) (v := ?vTk26) rfl (by kernel_rfl) (by kernel_rfl) (by kernel_rfl) ?hqTk26 (Or.inl ⟨?waTk26, ?yTk26⟩) (by assumption) ?_
        case hqTk26 => exact fun _ _ _ h => h
        case waTk26 => rfl
        case yTk26 =>
          intro w1 hSw
          (try dsimp only at hSw)
          go_simp
          (try with_reducible rfl)
        try simp only [Act.put, List.setIfInBounds_toArray, List.set_cons_zero, List.set_cons_succ]
        refine wpAnyH_take (i := 11) (oi := { dst := some 41, op := Op.pick (Operand.tmp 38) (Operand.tmp 40) (Operand.const (Value.bool false)), type := 4, pos := "ref.go:70", after := #[{ on := 8, ground := Ground.data }, { on := 10, ground := Ground.data }], guard := none }) (v := ?vTk27) rfl (by kernel_rfl) (by kernel_rfl) (by kernel_rfl) ?hqTk27 (Or.inl ⟨?waTk27, ?yTk27⟩) (by assumption) ?_
        case hqTk27 => exact fun _ _ _ h => h
        case waTk27 => rfl
        case yTk27 =>
          intro w1 hSw
          (try dsimp only at hSw)
          go_simp
          (try with_reducible rfl)
        try simp only [Act.put, List.setIfInBounds_toArray, List.set_cons_zero, List.set_cons_succ]
        refine wpAnyH_take (i := 12) (oi := { dst := some 42, op := Op.move (Operand.tmp 41), type := 4, pos := "ref.go:70", after := #[{ on := 11, ground := Ground.data }, { on := 8, ground := Ground.chain }], guard := none }) (v := ?vTk28) rfl (by kernel_rfl) (by kernel_rfl) (by kernel_rfl) ?hqTk28 (Or.inl ⟨?waTk28, ?yTk28⟩) (by assumption) ?_
        case hqTk28 => exact fun _ _ _ h => h
        case waTk28 => rfl
        case yTk28 =>
          intro w1 hSw
          (try dsimp only at hSw)
          go_simp
          (try with_reducible rfl)
        try simp only [Act.put, List.setIfInBounds_toArray, List.set_cons_zero, List.set_cons_succ]
        refine wpAnyH_take (i := 13) (oi := { dst := some 43, op := Op.move (Operand.tmp 1), type := 110, pos := "ref.go:70", after := #[{ on := 12, ground := Ground.guard }], guard := some (12, true) }) (v := undef) rfl (by kernel_rfl) (by kernel_rfl) (by kernel_rfl) ?hqTk29 (Or.inr ⟨?waTk29, rfl⟩) (by assumption) ?_
        case hqTk29 => exact fun _ _ _ h => h
        case waTk29 => rfl
        try simp only [Act.put, List.setIfInBounds_toArray, List.set_cons_zero, List.set_cons_succ]
        refine wpAnyH_take (i := 14) (oi := { dst := some 44, op := Op.move (Operand.tmp 8), type := 3, pos := "ref.go:70", after := #[{ on := 12, ground := Ground.guard }], guard := some (12, true) }) (v := undef) rfl (by kernel_rfl) (by kernel_rfl) (by kernel_rfl) ?hqTk30 (Or.inr ⟨?waTk30, rfl⟩) (by assumption) ?_
        case hqTk30 => exact fun _ _ _ h => h
        case waTk30 => rfl
        try simp only [Act.put, List.setIfInBounds_toArray, List.set_cons_zero, List.set_cons_succ]
        refine wpAnyH_take (i := 15) (oi := { dst := some 45, op := Op.indexAddr 110 (Operand.tmp 43) (Operand.tmp 44), type := 0, pos := "ref.go:70", after := #[{ on := 13, ground := Ground.data }, { on := 14, ground := Ground.data }, { on := 12, ground := Ground.guard }], guard := some (12, true) }) (v := undef) rfl (by kernel_rfl) (by kernel_rfl) (by kernel_rfl) ?hqTk31 (Or.inr ⟨?waTk31, rfl⟩) (by assumption) ?_
        case hqTk31 => exact fun _ _ _ h => h
        case waTk31 => rfl
        try simp only [Act.put, List.setIfInBounds_toArray, List.set_cons_zero, List.set_cons_succ]
        refine wpAnyH_take (i := 16) (oi := { dst := some 46, op := Op.load 4 (Operand.tmp 45), type := 4, pos := "ref.go:70", after := #[{ on := 15, ground := Ground.data }, { on := 12, ground := Ground.guard }], guard := some (12, true) }) (v := undef) rfl (by kernel_rfl) (by kernel_rfl) (by kernel_rfl) ?hqTk32 (Or.inr ⟨?waTk32, rfl⟩) (by assumption) ?_
        case hqTk32 => exact fun _ _ _ h => h
        case waTk32 => rfl
        try simp only [Act.put, List.setIfInBounds_toArray, List.set_cons_zero, List.set_cons_succ]
        refine wpAnyH_take (i := 17) (oi := { dst := some 47, op := Op.unOp UnOp.not 4 (Operand.tmp 46), type := 4, pos := "ref.go:70", after := #[{ on := 16, ground := Ground.data }, { on := 12, ground := Ground.guard }], guard := some (12, true) }) (v := undef) rfl (by kernel_rfl) (by kernel_rfl) (by kernel_rfl) ?hqTk33 (Or.inr ⟨?waTk33, rfl⟩) (by assumption) ?_
        case hqTk33 => exact fun _ _ _ h => h
        case waTk33 => rfl
        try simp only [Act.put, List.setIfInBounds_toArray, List.set_cons_zero, List.set_cons_succ]
        refine wpAnyH_take (i := 18) (oi := { dst := some 48, op := Op.pick (Operand.tmp 42) (Operand.tmp 47) (Operand.const (Value.bool false)), type := 4, pos := "ref.go:70", after := #[{ on := 12, ground := Ground.data }, { on := 17, ground := Ground.data }], guard := none }) (v := ?vTk34) rfl (by kernel_rfl) (by kernel_rfl) (by kernel_rfl) ?hqTk34 (Or.inl ⟨?waTk34, ?yTk34⟩) (by assumption) ?_
        case hqTk34 => exact fun _ _ _ h => h
        case waTk34 => rfl
        case yTk34 =>
          intro w1 hSw
          (try dsimp only at hSw)
          go_simp
          (try with_reducible rfl)
        try simp only [Act.put, List.setIfInBounds_toArray, List.set_cons_zero, List.set_cons_succ]
        refine wpAnyH_done (by kernel_rfl) ?_ _
        refine NoPanic.normal ?_
        go_wp2
        go_roundw
        case rel => exact ⟨k + 1, by go_num, by omega, ⟨_, rfl⟩, Lib.hid ⟨past HI.out.1 hbt, HEND.out (by rw [HH.out]; rfl)⟩⟩
        case measure => simp [intOf]; omega
      cases sk
      case true =>
        refine wp_region_noPanic ?_
        refine wp_region_held_drew (S := fun w' => w'.cell? ⟨g, 1, none⟩ = some (.string ⟨b.toArray⟩) ∧ w'.cell? ⟨gw, k, none⟩ = some (.bool true)) (by kernel_rfl) ⟨by simpa using d1, by simpa using d2⟩ (fun hHeld => ?_)
        refine wpAnyH_take (i := 1) (oi := { dst := some 31, op := Op.move (Operand.tmp 8), type := 3, pos := "ref.go:70", after := #[], guard := none }) (v := ?vTk35) rfl (by kernel_rfl) (by kernel_rfl) (by kernel_rfl) ?hqTk35 (Or.inl ⟨?waTk35, ?yTk35⟩) (by assumption) ?_
        case hqTk35 => exact fun _ _ _ h => h
        case waTk35 => rfl
        case yTk35 =>
          intro w1 hSw
          (try dsimp only at hSw)
          go_simp
          (try with_reducible rfl)
        try simp only [Act.put, List.setIfInBounds_toArray, List.set_cons_zero, List.set_cons_succ]
        refine wpAnyH_take (i := 4) (oi := { dst := some 34, op := Op.move (Operand.tmp 2), type := 89, pos := "ref.go:70", after := #[], guard := none }) (v := ?vTk36) rfl (by kernel_rfl) (by kernel_rfl) (by kernel_rfl) ?hqTk36 (Or.inl ⟨?waTk36, ?yTk36⟩) (by assumption) ?_
        case hqTk36 => exact fun _ _ _ h => h
        case waTk36 => rfl
        case yTk36 =>
          intro w1 hSw
          (try dsimp only at hSw)
          go_simp
          (try with_reducible rfl)
        try simp only [Act.put, List.setIfInBounds_toArray, List.set_cons_zero, List.set_cons_succ]
        refine wpAnyH_take (i := 5) (oi := { dst := some 35, op := Op.indexAddr 89 (Operand.tmp 34) (Operand.const (Value.int IntKind.i64 1)), type := 0, pos := "ref.go:70", after := #[{ on := 4, ground := Ground.data }], guard := none }) (v := ?vTk37) rfl (by kernel_rfl) (by kernel_rfl) (by kernel_rfl) ?hqTk37 (Or.inl ⟨?waTk37, ?yTk37⟩) (by assumption) ?_
        case hqTk37 => exact fun _ _ _ h => h
        case waTk37 => rfl
        case yTk37 =>
          intro w1 hSw
          (try dsimp only at hSw)
          go_simp
          (try with_reducible rfl)
        try simp only [Act.put, List.setIfInBounds_toArray, List.set_cons_zero, List.set_cons_succ]
        refine wpAnyH_take (i := 6) (oi := { dst := some 36, op := Op.load 9 (Operand.tmp 35), type := 9, pos := "ref.go:70", after := #[{ on := 5, ground := Ground.data }], guard := none }) (v := ?vTk38) rfl (by kernel_rfl) (by kernel_rfl) (by kernel_rfl) ?hqTk38 (Or.inl ⟨?waTk38, ?yTk38⟩) (by assumption) ?_
        case hqTk38 => exact fun _ _ _ h => h
        case waTk38 => rfl
        case yTk38 =>
          intro w1 hSw
          (try dsimp only at hSw)
          go_simp
          (try with_reducible rfl)
        try simp only [Act.put, List.setIfInBounds_toArray, List.set_cons_zero, List.set_cons_succ]
        refine wpAnyH_ready (rs := [0]) (by kernel_rfl) (by simp) ?_
        refine AllReadyH.cons (o := { dst := some 30, op := Op.call { callee := Callee.value (Operand.func 91), args := #[], argTypes := #[] }, type := 89, pos := "ref.go:70", after := #[], guard := none }) rfl (fun K hK => ?_) AllReadyH.nil
        go_simp
        refine (names_any _).mono ?_
        rintro e wt ⟨gn, rfl, _, _, hn, hb⟩
        have hbt := past HB.out hb
        have hS3 := (HS2.out wt hbt).1
        have hS4 := (HS2.out wt hbt).2
        have hnk := HNM.out wt gn hn
        clear hn hb
        try go_wp2_with fail
        refine hK.out _ _ ⟨hS3, hS4⟩ (fun hHeld2 => ?_)
        clear hK K hHeld
        have hHeld := hHeld2
        clear hHeld2
        try simp only [Act.put, List.setIfInBounds_toArray, List.set_cons_zero, List.set_cons_succ]
        refine wpAnyH_take (i := 2) (oi := { dst := some 32, op := Op.indexAddr 89 (Operand.tmp 30) (Operand.tmp 31), type := 0, pos := "ref.go:70", after := #[{ on := 0, ground := Ground.data }, { on := 1, ground := Ground.data }], guard := none }) (v := ?vTk39) rfl (by kernel_rfl) (by kernel_rfl) (by kernel_rfl) ?hqTk39 (Or.inl ⟨?waTk39, ?yTk39⟩) (by assumption) ?_
        case hqTk39 => exact fun _ _ _ h => h
        case waTk39 => rfl
        case yTk39 =>
          intro w1 hSw
          (try dsimp only at hSw)
          go_simp
          (try with_reducible rfl)
        try simp only [Act.put, List.setIfInBounds_toArray, List.set_cons_zero, List.set_cons_succ]
        refine wpAnyH_ready (rs := [3]) (by kernel_rfl) (by simp) ?_
        refine AllReadyH.cons (o := { dst := some 33, op := Op.load 9 (Operand.tmp 32), type := 9, pos := "ref.go:70", after := #[{ on := 2, ground := Ground.data }], guard := none }) rfl (fun K hK => ?_) AllReadyH.nil
        go_simp
        refine hK.out _ _ ⟨hS3, hS4⟩ (fun hHeld2 => ?_)
        clear hK K hHeld
        have hHeld := hHeld2
        clear hHeld2
        try simp only [Act.put, List.setIfInBounds_toArray, List.set_cons_zero, List.set_cons_succ]
        refine wpAnyH_take (i := 7) (oi := { dst := some 37, op := Op.binOp BinOp.eql 9 (Operand.tmp 33) (Operand.tmp 36) 9, type := 4, pos := "ref.go:70", after := #[{ on := 3, ground := Ground.data }, { on := 6, ground := Ground.data }], guard := none }) (v := ?vTk40) rfl (by kernel_rfl) (by kernel_rfl) (by kernel_rfl) ?hqTk40 (Or.inl ⟨?waTk40, ?yTk40⟩) (by assumption) ?_
        case hqTk40 => exact fun _ _ _ h => h
        case waTk40 => rfl
        case yTk40 =>
          intro w1 hSw
          (try dsimp only at hSw)
          go_simp
          (try with_reducible rfl)
        try simp only [Act.put, List.setIfInBounds_toArray, List.set_cons_zero, List.set_cons_succ]
        refine wpAnyH_take (i := 8) (oi := { dst := some 38, op := Op.move (Operand.tmp 37), type := 4, pos := "ref.go:70", after := #[{ on := 7, ground := Ground.data }, { on := 0, ground := Ground.chain }], guard := none }) (v := ?vTk41) rfl (by kernel_rfl) (by kernel_rfl) (by kernel_rfl) ?hqTk41 (Or.inl ⟨?waTk41, ?yTk41⟩) (by assumption) ?_
        case hqTk41 => exact fun _ _ _ h => h
        case waTk41 => rfl
        case yTk41 =>
          intro w1 hSw
          (try dsimp only at hSw)
          go_simp
          (try with_reducible rfl)
        try simp only [Act.put, List.setIfInBounds_toArray, List.set_cons_zero, List.set_cons_succ]
        refine wpAnyH_take (i := 9) (oi := { dst := some 39, op := Op.move (Operand.tmp 7), type := 2, pos := "ref.go:70", after := #[{ on := 8, ground := Ground.guard }], guard := some (8, true) }) (v := ?vTk42) rfl (by kernel_rfl) (by kernel_rfl) (by kernel_rfl) ?hqTk42 (Or.inl ⟨?waTk42, ?yTk42⟩) (by assumption) ?_
        case hqTk42 => exact fun _ _ _ h => h
        case waTk42 => rfl
        case yTk42 =>
          intro w1 hSw
          (try dsimp only at hSw)
          go_simp
          (try with_reducible rfl)
        try simp only [Act.put, List.setIfInBounds_toArray, List.set_cons_zero, List.set_cons_succ]
        refine wpAnyH_take (i := 10) (oi := { dst := some 40, op := Op.binOp BinOp.geq 2 (Operand.tmp 39) (Operand.const (Value.int IntKind.i64 0)) 2, type := 4, pos := "ref.go:70", after := #[{ on := 9, ground := Ground.data }, { on := 8, ground := Ground.guard }], guard := some (8, true) }) (v := ?vTk43) rfl (by kernel_rfl) (by kernel_rfl) (by kernel_rfl) ?hqTk43 (Or.inl ⟨?waTk43, ?yTk43⟩) (by assumption) ?_
        case hqTk43 => exact fun _ _ _ h => h
        case waTk43 => rfl
        case yTk43 =>
          intro w1 hSw
          (try dsimp only at hSw)
          go_simp
          (try with_reducible rfl)
        try simp only [Act.put, List.setIfInBounds_toArray, List.set_cons_zero, List.set_cons_succ]
        refine wpAnyH_take (i := 11) (oi := { dst := some 41, op := Op.pick (Operand.tmp 38) (Operand.tmp 40) (Operand.const (Value.bool false)), type := 4, pos := "ref.go:70", after := #[{ on := 8, ground := Ground.data }, { on := 10, ground := Ground.data }], guard := none }) (v := ?vTk44) rfl (by kernel_rfl) (by kernel_rfl) (by kernel_rfl) ?hqTk44 (Or.inl ⟨?waTk44, ?yTk44⟩) (by assumption) ?_
        case hqTk44 => exact fun _ _ _ h => h
        case waTk44 => rfl
        case yTk44 =>
          intro w1 hSw
          (try dsimp only at hSw)
          go_simp
          (try with_reducible rfl)
        try simp only [Act.put, List.setIfInBounds_toArray, List.set_cons_zero, List.set_cons_succ]
        refine wpAnyH_take (i := 12) (oi := { dst := some 42, op := Op.move (Operand.tmp 41), type := 4, pos := "ref.go:70", after := #[{ on := 11, ground := Ground.data }, { on := 8, ground := Ground.chain }], guard := none }) (v := ?vTk45) rfl (by kernel_rfl) (by kernel_rfl) (by kernel_rfl) ?hqTk45 (Or.inl ⟨?waTk45, ?yTk45⟩) (by assumption) ?_
        case hqTk45 => exact fun _ _ _ h => h
        case waTk45 => rfl
        case yTk45 =>
          intro w1 hSw
          (try dsimp only at hSw)
          go_simp
          (try with_reducible rfl)
        try simp only [Act.put, List.setIfInBounds_toArray, List.set_cons_zero, List.set_cons_succ]
        refine wpAnyH_take (i := 13) (oi := { dst := some 43, op := Op.move (Operand.tmp 1), type := 110, pos := "ref.go:70", after := #[{ on := 12, ground := Ground.guard }], guard := some (12, true) }) (v := ?vTk46) rfl (by kernel_rfl) (by kernel_rfl) (by kernel_rfl) ?hqTk46 (Or.inl ⟨?waTk46, ?yTk46⟩) (by assumption) ?_
        case hqTk46 => exact fun _ _ _ h => h
        case waTk46 => rfl
        case yTk46 =>
          intro w1 hSw
          (try dsimp only at hSw)
          go_simp
          (try with_reducible rfl)
        try simp only [Act.put, List.setIfInBounds_toArray, List.set_cons_zero, List.set_cons_succ]
        refine wpAnyH_take (i := 14) (oi := { dst := some 44, op := Op.move (Operand.tmp 8), type := 3, pos := "ref.go:70", after := #[{ on := 12, ground := Ground.guard }], guard := some (12, true) }) (v := ?vTk47) rfl (by kernel_rfl) (by kernel_rfl) (by kernel_rfl) ?hqTk47 (Or.inl ⟨?waTk47, ?yTk47⟩) (by assumption) ?_
        case hqTk47 => exact fun _ _ _ h => h
        case waTk47 => rfl
        case yTk47 =>
          intro w1 hSw
          (try dsimp only at hSw)
          go_simp
          (try with_reducible rfl)
        try simp only [Act.put, List.setIfInBounds_toArray, List.set_cons_zero, List.set_cons_succ]
        refine wpAnyH_take (i := 15) (oi := { dst := some 45, op := Op.indexAddr 110 (Operand.tmp 43) (Operand.tmp 44), type := 0, pos := "ref.go:70", after := #[{ on := 13, ground := Ground.data }, { on := 14, ground := Ground.data }, { on := 12, ground := Ground.guard }], guard := some (12, true) }) (v := ?vTk48) rfl (by kernel_rfl) (by kernel_rfl) (by kernel_rfl) ?hqTk48 (Or.inl ⟨?waTk48, ?yTk48⟩) (by assumption) ?_
        case hqTk48 => exact fun _ _ _ h => h
        case waTk48 => rfl
        case yTk48 =>
          intro w1 hSw
          (try dsimp only at hSw)
          go_simp
          (try with_reducible rfl)
        try simp only [Act.put, List.setIfInBounds_toArray, List.set_cons_zero, List.set_cons_succ]
        refine wpAnyH_take (i := 16) (oi := { dst := some 46, op := Op.load 4 (Operand.tmp 45), type := 4, pos := "ref.go:70", after := #[{ on := 15, ground := Ground.data }, { on := 12, ground := Ground.guard }], guard := some (12, true) }) (v := ?vTk49) rfl (by kernel_rfl) (by kernel_rfl) (by kernel_rfl) ?hqTk49 (Or.inl ⟨?waTk49, ?yTk49⟩) (by assumption) ?_
        case hqTk49 => exact fun _ _ _ h => h
        case waTk49 => rfl
        case yTk49 =>
          intro w1 hSw
          (try dsimp only at hSw)
          go_simp
          (try with_reducible rfl)
        try simp only [Act.put, List.setIfInBounds_toArray, List.set_cons_zero, List.set_cons_succ]
        refine wpAnyH_take (i := 17) (oi := { dst := some 47, op := Op.unOp UnOp.not 4 (Operand.tmp 46), type := 4, pos := "ref.go:70", after := #[{ on := 16, ground := Ground.data }, { on := 12, ground := Ground.guard }], guard := some (12, true) }) (v := ?vTk50) rfl (by kernel_rfl) (by kernel_rfl) (by kernel_rfl) ?hqTk50 (Or.inl ⟨?waTk50, ?yTk50⟩) (by assumption) ?_
        case hqTk50 => exact fun _ _ _ h => h
        case waTk50 => rfl
        case yTk50 =>
          intro w1 hSw
          (try dsimp only at hSw)
          go_simp
          (try with_reducible rfl)
        try simp only [Act.put, List.setIfInBounds_toArray, List.set_cons_zero, List.set_cons_succ]
        refine wpAnyH_take (i := 18) (oi := { dst := some 48, op := Op.pick (Operand.tmp 42) (Operand.tmp 47) (Operand.const (Value.bool false)), type := 4, pos := "ref.go:70", after := #[{ on := 12, ground := Ground.data }, { on := 17, ground := Ground.data }], guard := none }) (v := ?vTk51) rfl (by kernel_rfl) (by kernel_rfl) (by kernel_rfl) ?hqTk51 (Or.inl ⟨?waTk51, ?yTk51⟩) (by assumption) ?_
        case hqTk51 => exact fun _ _ _ h => h
        case waTk51 => rfl
        case yTk51 =>
          intro w1 hSw
          (try dsimp only at hSw)
          go_simp
          (try with_reducible rfl)
        try simp only [Act.put, List.setIfInBounds_toArray, List.set_cons_zero, List.set_cons_succ]
        refine wpAnyH_done (by kernel_rfl) ?_ _
        refine NoPanic.normal ?_
        go_wp2
        go_roundw
        case rel => exact ⟨k + 1, by go_num, by omega, ⟨_, rfl⟩, Lib.hid ⟨past HI.out.1 hbt, HEND.out (by rw [HH.out]; rfl)⟩⟩
        case measure => simp [intOf]; omega
      refine wp_region_noPanic ?_
      refine wp_region_held_drew (S := fun w' => w'.cell? ⟨g, 1, none⟩ = some (.string ⟨b.toArray⟩) ∧ w'.cell? ⟨gw, k, none⟩ = some (.bool false)) (by kernel_rfl) ⟨by simpa using d1, by simpa using d2⟩ (fun hHeld => ?_)
      refine wpAnyH_take (i := 1) (oi := { dst := some 31, op := Op.move (Operand.tmp 8), type := 3, pos := "ref.go:70", after := #[], guard := none }) (v := ?vTk52) rfl (by kernel_rfl) (by kernel_rfl) (by kernel_rfl) ?hqTk52 (Or.inl ⟨?waTk52, ?yTk52⟩) (by assumption) ?_
      case hqTk52 => exact fun _ _ _ h => h
      case waTk52 => rfl
      case yTk52 =>
        intro w1 hSw
        (try dsimp only at hSw)
        go_simp
        (try with_reducible rfl)
      try simp only [Act.put, List.setIfInBounds_toArray, List.set_cons_zero, List.set_cons_succ]
      refine wpAnyH_take (i := 4) (oi := { dst := some 34, op := Op.move (Operand.tmp 2), type := 89, pos := "ref.go:70", after := #[], guard := none }) (v := ?vTk53) rfl (by kernel_rfl) (by kernel_rfl) (by kernel_rfl) ?hqTk53 (Or.inl ⟨?waTk53, ?yTk53⟩) (by assumption) ?_
      case hqTk53 => exact fun _ _ _ h => h
      case waTk53 => rfl
      case yTk53 =>
        intro w1 hSw
        (try dsimp only at hSw)
        go_simp
        (try with_reducible rfl)
      try simp only [Act.put, List.setIfInBounds_toArray, List.set_cons_zero, List.set_cons_succ]
      refine wpAnyH_take (i := 5) (oi := { dst := some 35, op := Op.indexAddr 89 (Operand.tmp 34) (Operand.const (Value.int IntKind.i64 1)), type := 0, pos := "ref.go:70", after := #[{ on := 4, ground := Ground.data }], guard := none }) (v := ?vTk54) rfl (by kernel_rfl) (by kernel_rfl) (by kernel_rfl) ?hqTk54 (Or.inl ⟨?waTk54, ?yTk54⟩) (by assumption) ?_
      case hqTk54 => exact fun _ _ _ h => h
      case waTk54 => rfl
      case yTk54 =>
        intro w1 hSw
        (try dsimp only at hSw)
        go_simp
        (try with_reducible rfl)
      try simp only [Act.put, List.setIfInBounds_toArray, List.set_cons_zero, List.set_cons_succ]
      refine wpAnyH_take (i := 6) (oi := { dst := some 36, op := Op.load 9 (Operand.tmp 35), type := 9, pos := "ref.go:70", after := #[{ on := 5, ground := Ground.data }], guard := none }) (v := ?vTk55) rfl (by kernel_rfl) (by kernel_rfl) (by kernel_rfl) ?hqTk55 (Or.inl ⟨?waTk55, ?yTk55⟩) (by assumption) ?_
      case hqTk55 => exact fun _ _ _ h => h
      case waTk55 => rfl
      case yTk55 =>
        intro w1 hSw
        (try dsimp only at hSw)
        go_simp
        (try with_reducible rfl)
      try simp only [Act.put, List.setIfInBounds_toArray, List.set_cons_zero, List.set_cons_succ]
      refine wpAnyH_ready (rs := [0]) (by kernel_rfl) (by simp) ?_
      refine AllReadyH.cons (o := { dst := some 30, op := Op.call { callee := Callee.value (Operand.func 91), args := #[], argTypes := #[] }, type := 89, pos := "ref.go:70", after := #[], guard := none }) rfl (fun K hK => ?_) AllReadyH.nil
      go_simp
      refine (names_any _).mono ?_
      rintro e wt ⟨gn, rfl, _, _, hn, hb⟩
      have hbt := past HB.out hb
      have hS3 := (HS2.out wt hbt).1
      have hS4 := (HS2.out wt hbt).2
      have hnk := HNM.out wt gn hn
      clear hn hb
      try go_wp2_with fail
      refine hK.out _ _ ⟨hS3, hS4⟩ (fun hHeld2 => ?_)
      clear hK K hHeld
      have hHeld := hHeld2
      clear hHeld2
      try simp only [Act.put, List.setIfInBounds_toArray, List.set_cons_zero, List.set_cons_succ]
      refine wpAnyH_take (i := 2) (oi := { dst := some 32, op := Op.indexAddr 89 (Operand.tmp 30) (Operand.tmp 31), type := 0, pos := "ref.go:70", after := #[{ on := 0, ground := Ground.data }, { on := 1, ground := Ground.data }], guard := none }) (v := ?vTk56) rfl (by kernel_rfl) (by kernel_rfl) (by kernel_rfl) ?hqTk56 (Or.inl ⟨?waTk56, ?yTk56⟩) (by assumption) ?_
      case hqTk56 => exact fun _ _ _ h => h
      case waTk56 => rfl
      case yTk56 =>
        intro w1 hSw
        (try dsimp only at hSw)
        go_simp
        (try with_reducible rfl)
      try simp only [Act.put, List.setIfInBounds_toArray, List.set_cons_zero, List.set_cons_succ]
      refine wpAnyH_ready (rs := [3]) (by kernel_rfl) (by simp) ?_
      refine AllReadyH.cons (o := { dst := some 33, op := Op.load 9 (Operand.tmp 32), type := 9, pos := "ref.go:70", after := #[{ on := 2, ground := Ground.data }], guard := none }) rfl (fun K hK => ?_) AllReadyH.nil
      go_simp
      refine hK.out _ _ ⟨hS3, hS4⟩ (fun hHeld2 => ?_)
      clear hK K hHeld
      have hHeld := hHeld2
      clear hHeld2
      try simp only [Act.put, List.setIfInBounds_toArray, List.set_cons_zero, List.set_cons_succ]
      refine wpAnyH_take (i := 7) (oi := { dst := some 37, op := Op.binOp BinOp.eql 9 (Operand.tmp 33) (Operand.tmp 36) 9, type := 4, pos := "ref.go:70", after := #[{ on := 3, ground := Ground.data }, { on := 6, ground := Ground.data }], guard := none }) (v := ?vTk57) rfl (by kernel_rfl) (by kernel_rfl) (by kernel_rfl) ?hqTk57 (Or.inl ⟨?waTk57, ?yTk57⟩) (by assumption) ?_
      case hqTk57 => exact fun _ _ _ h => h
      case waTk57 => rfl
      case yTk57 =>
        intro w1 hSw
        (try dsimp only at hSw)
        go_simp
        (try with_reducible rfl)
      try simp only [Act.put, List.setIfInBounds_toArray, List.set_cons_zero, List.set_cons_succ]
      refine wpAnyH_take (i := 8) (oi := { dst := some 38, op := Op.move (Operand.tmp 37), type := 4, pos := "ref.go:70", after := #[{ on := 7, ground := Ground.data }, { on := 0, ground := Ground.chain }], guard := none }) (v := ?vTk58) rfl (by kernel_rfl) (by kernel_rfl) (by kernel_rfl) ?hqTk58 (Or.inl ⟨?waTk58, ?yTk58⟩) (by assumption) ?_
      case hqTk58 => exact fun _ _ _ h => h
      case waTk58 => rfl
      case yTk58 =>
        intro w1 hSw
        (try dsimp only at hSw)
        go_simp
        (try with_reducible rfl)
      try simp only [Act.put, List.setIfInBounds_toArray, List.set_cons_zero, List.set_cons_succ]
      refine wpAnyH_take (i := 9) (oi := { dst := some 39, op := Op.move (Operand.tmp 7), type := 2, pos := "ref.go:70", after := #[{ on := 8, ground := Ground.guard }], guard := some (8, true) }) (v := ?vTk59) rfl (by kernel_rfl) (by kernel_rfl) (by kernel_rfl) ?hqTk59 (Or.inl ⟨?waTk59, ?yTk59⟩) (by assumption) ?_
      case hqTk59 => exact fun _ _ _ h => h
      case waTk59 => rfl
      case yTk59 =>
        intro w1 hSw
        (try dsimp only at hSw)
        go_simp
        (try with_reducible rfl)
      try simp only [Act.put, List.setIfInBounds_toArray, List.set_cons_zero, List.set_cons_succ]
      refine wpAnyH_take (i := 10) (oi := { dst := some 40, op := Op.binOp BinOp.geq 2 (Operand.tmp 39) (Operand.const (Value.int IntKind.i64 0)) 2, type := 4, pos := "ref.go:70", after := #[{ on := 9, ground := Ground.data }, { on := 8, ground := Ground.guard }], guard := some (8, true) }) (v := ?vTk60) rfl (by kernel_rfl) (by kernel_rfl) (by kernel_rfl) ?hqTk60 (Or.inl ⟨?waTk60, ?yTk60⟩) (by assumption) ?_
      case hqTk60 => exact fun _ _ _ h => h
      case waTk60 => rfl
      case yTk60 =>
        intro w1 hSw
        (try dsimp only at hSw)
        go_simp
        (try with_reducible rfl)
      try simp only [Act.put, List.setIfInBounds_toArray, List.set_cons_zero, List.set_cons_succ]
      refine wpAnyH_take (i := 11) (oi := { dst := some 41, op := Op.pick (Operand.tmp 38) (Operand.tmp 40) (Operand.const (Value.bool false)), type := 4, pos := "ref.go:70", after := #[{ on := 8, ground := Ground.data }, { on := 10, ground := Ground.data }], guard := none }) (v := ?vTk61) rfl (by kernel_rfl) (by kernel_rfl) (by kernel_rfl) ?hqTk61 (Or.inl ⟨?waTk61, ?yTk61⟩) (by assumption) ?_
      case hqTk61 => exact fun _ _ _ h => h
      case waTk61 => rfl
      case yTk61 =>
        intro w1 hSw
        (try dsimp only at hSw)
        go_simp
        (try with_reducible rfl)
      try simp only [Act.put, List.setIfInBounds_toArray, List.set_cons_zero, List.set_cons_succ]
      refine wpAnyH_take (i := 12) (oi := { dst := some 42, op := Op.move (Operand.tmp 41), type := 4, pos := "ref.go:70", after := #[{ on := 11, ground := Ground.data }, { on := 8, ground := Ground.chain }], guard := none }) (v := ?vTk62) rfl (by kernel_rfl) (by kernel_rfl) (by kernel_rfl) ?hqTk62 (Or.inl ⟨?waTk62, ?yTk62⟩) (by assumption) ?_
      case hqTk62 => exact fun _ _ _ h => h
      case waTk62 => rfl
      case yTk62 =>
        intro w1 hSw
        (try dsimp only at hSw)
        go_simp
        (try with_reducible rfl)
      try simp only [Act.put, List.setIfInBounds_toArray, List.set_cons_zero, List.set_cons_succ]
      refine wpAnyH_take (i := 13) (oi := { dst := some 43, op := Op.move (Operand.tmp 1), type := 110, pos := "ref.go:70", after := #[{ on := 12, ground := Ground.guard }], guard := some (12, true) }) (v := ?vTk63) rfl (by kernel_rfl) (by kernel_rfl) (by kernel_rfl) ?hqTk63 (Or.inl ⟨?waTk63, ?yTk63⟩) (by assumption) ?_
      case hqTk63 => exact fun _ _ _ h => h
      case waTk63 => rfl
      case yTk63 =>
        intro w1 hSw
        (try dsimp only at hSw)
        go_simp
        (try with_reducible rfl)
      try simp only [Act.put, List.setIfInBounds_toArray, List.set_cons_zero, List.set_cons_succ]
      refine wpAnyH_take (i := 14) (oi := { dst := some 44, op := Op.move (Operand.tmp 8), type := 3, pos := "ref.go:70", after := #[{ on := 12, ground := Ground.guard }], guard := some (12, true) }) (v := ?vTk64) rfl (by kernel_rfl) (by kernel_rfl) (by kernel_rfl) ?hqTk64 (Or.inl ⟨?waTk64, ?yTk64⟩) (by assumption) ?_
      case hqTk64 => exact fun _ _ _ h => h
      case waTk64 => rfl
      case yTk64 =>
        intro w1 hSw
        (try dsimp only at hSw)
        go_simp
        (try with_reducible rfl)
      try simp only [Act.put, List.setIfInBounds_toArray, List.set_cons_zero, List.set_cons_succ]
      refine wpAnyH_take (i := 15) (oi := { dst := some 45, op := Op.indexAddr 110 (Operand.tmp 43) (Operand.tmp 44), type := 0, pos := "ref.go:70", after := #[{ on := 13, ground := Ground.data }, { on := 14, ground := Ground.data }, { on := 12, ground := Ground.guard }], guard := some (12, true) }) (v := ?vTk65) rfl (by kernel_rfl) (by kernel_rfl) (by kernel_rfl) ?hqTk65 (Or.inl ⟨?waTk65, ?yTk65⟩) (by assumption) ?_
      case hqTk65 => exact fun _ _ _ h => h
      case waTk65 => rfl
      case yTk65 =>
        intro w1 hSw
        (try dsimp only at hSw)
        go_simp
        (try with_reducible rfl)
      try simp only [Act.put, List.setIfInBounds_toArray, List.set_cons_zero, List.set_cons_succ]
      refine wpAnyH_take (i := 16) (oi := { dst := some 46, op := Op.load 4 (Operand.tmp 45), type := 4, pos := "ref.go:70", after := #[{ on := 15, ground := Ground.data }, { on := 12, ground := Ground.guard }], guard := some (12, true) }) (v := ?vTk66) rfl (by kernel_rfl) (by kernel_rfl) (by kernel_rfl) ?hqTk66 (Or.inl ⟨?waTk66, ?yTk66⟩) (by assumption) ?_
      case hqTk66 => exact fun _ _ _ h => h
      case waTk66 => rfl
      case yTk66 =>
        intro w1 hSw
        (try dsimp only at hSw)
        go_simp
        (try with_reducible rfl)
      try simp only [Act.put, List.setIfInBounds_toArray, List.set_cons_zero, List.set_cons_succ]
      refine wpAnyH_take (i := 17) (oi := { dst := some 47, op := Op.unOp UnOp.not 4 (Operand.tmp 46), type := 4, pos := "ref.go:70", after := #[{ on := 16, ground := Ground.data }, { on := 12, ground := Ground.guard }], guard := some (12, true) }) (v := ?vTk67) rfl (by kernel_rfl) (by kernel_rfl) (by kernel_rfl) ?hqTk67 (Or.inl ⟨?waTk67, ?yTk67⟩) (by assumption) ?_
      case hqTk67 => exact fun _ _ _ h => h
      case waTk67 => rfl
      case yTk67 =>
        intro w1 hSw
        (try dsimp only at hSw)
        go_simp
        (try with_reducible rfl)
      try simp only [Act.put, List.setIfInBounds_toArray, List.set_cons_zero, List.set_cons_succ]
      refine wpAnyH_take (i := 18) (oi := { dst := some 48, op := Op.pick (Operand.tmp 42) (Operand.tmp 47) (Operand.const (Value.bool false)), type := 4, pos := "ref.go:70", after := #[{ on := 12, ground := Ground.data }, { on := 17, ground := Ground.data }], guard := none }) (v := ?vTk68) rfl (by kernel_rfl) (by kernel_rfl) (by kernel_rfl) ?hqTk68 (Or.inl ⟨?waTk68, ?yTk68⟩) (by assumption) ?_
      case hqTk68 => exact fun _ _ _ h => h
      case waTk68 => rfl
      case yTk68 =>
        intro w1 hSw
        (try dsimp only at hSw)
        go_simp
        (try with_reducible rfl)
      try simp only [Act.put, List.setIfInBounds_toArray, List.set_cons_zero, List.set_cons_succ]
      refine wpAnyH_done (by kernel_rfl) ?_ _
      refine NoPanic.normal ?_
      have hR : R = (true, p.putD k N, s.set k true) := HYE.out k hlt (by rw [HH.out]; rfl)
      have HT : Hid (LinePost w gp gw R (.returned (.bool true)) ((wt.setCell ⟨gp, k, none⟩ (.int .i64 N)).setCell ⟨gw, k, none⟩ (.bool true))) := Lib.hid (by
        rw [hR]
        have h := HL.out wt (past HI.out.1 hbt)
        exact ⟨rfl, h.1.put (by omega) N, fun B h1 h2 h3 => (((past HI.out.1 hbt).mono h3).setCell h1 _).setCell h2 _⟩)
      have hLI := (HL.out wt (past HI.out.1 hbt)).1
      have hne := hLI.ne
      have hne' : gw ≠ gp := fun e => hne e.symm
      have f1 := hLI.fp k (by omega)
      have f2 := hLI.fs k (by omega)
      have e1 := hLI.hp.at k (by omega)
      clear hLI hR
      go_wp2
      go_ret
      exact HT.out
    · have i1 : ¬ (k : Int) < 4 := by omega
      have hR : R = (false, p, s) := HNO.out (fun j hj => HI.out.2 j (by omega))
      have HEND : Hid (LinePost w gp gw R (.returned (.bool false)) wr) := Lib.hid (by rw [hR]; exact ⟨rfl, (HL.out _ HI.out.1).1, fun B _ _ hB => HI.out.1.mono hB⟩)
      clear hR
      go_wp2
      go_ret
      exact HEND.out
end Go.Proofs.YtdpoahjgdndnhaaDoor
set_option maxRecDepth 100000
namespace Go.Proofs.YtdpoahjgdndnhaaDoor
open Go.RowKit
attribute [local go_sem ↓] Go.wp_at_zero Go.wp_at_succ
set_option linter.unusedVariables false

theorem own_at {w : World} {base n : Nat} {e : TypeId} {v : Value} {xs : List Value} (h : w.ownsRow base e 1 v n xs) (hn : 0 < n) : ∃ g cap, v = .slice (some ⟨g, 0, none⟩) n cap ∧ base ≤ g ∧ g < w.heap.size := by
  rcases h.2 with ⟨_, h0⟩ | ⟨g, cap, cur, rfl, hb, hg, _⟩
  · omega
  · refine ⟨g, cap, rfl, hb, ?_⟩
    rw [Array.getElem?_eq_some_iff] at hg
    exact hg.1
theorem line_any {base : Nat} (gp gw : Nat) (ws : List (List UInt8)) (v : Value) (p : Pol) (s : List Bool) (w : World) (h : LI w gp gw p s) (hb : ∀ x ∈ ws, x.length < 4611686018427387904) (h1 : gp < base) (h2 : gw < base)
    (ho : w.ownsRow base 9 1 v ws.length (strsV ws)) :
    Calls Tryd.prog 73 #[.pointer (some ⟨gp, 0, none⟩), .slice (some ⟨gw, 0, none⟩) 6 6, v] w (LinePost w gp gw (lineD ws p s)) := by
  match ws, hb, ho with
  | [], hb, ho =>
    rcases ho.2 with ⟨rfl, _⟩ | ⟨g, cap, cur, rfl, _⟩
    · exact line_few gp gw _ 0 0 [] p s w h (by decide) (by decide) rfl
    · exact line_few gp gw _ 0 _ [] p s w h (by decide) (by decide) rfl
  | [a], hb, ho =>
    obtain ⟨g, cap, rfl, _, _⟩ := own_at ho (by simp)
    exact line_few gp gw _ 1 _ [a] p s w h (by decide) (by decide) rfl
  | [a, b], hb, ho =>
    obtain ⟨g, cap, rfl, hg, hl⟩ := own_at ho (by simp)
    exact line_two gp gw g cap a b p s w h (hb b (by simp)) (ho.cellAt 0 (by simp)) (ho.cellAt 1 (by simp)) (by omega) (by omega)
  | [a, b, c], hb, ho =>
    obtain ⟨g, cap, rfl, hg, hl⟩ := own_at ho (by simp)
    exact line_three gp gw g cap a b c p s w h (hb c (by simp)) hl (ho.cellAt 0 (by simp)) (ho.cellAt 1 (by simp)) (ho.cellAt 2 (by simp))
  | a :: b :: c :: d :: t, hb, ho =>
    obtain ⟨g, cap, rfl, hg, hl⟩ := own_at ho (by simp)
    exact line_few gp gw _ _ _ (a :: b :: c :: d :: t) p s w h (by simp) (by simp) rfl
theorem words_len (l : List UInt8) : ∀ x ∈ wordsAll l, x.length ≤ l.length := by
  intro x hx
  unfold wordsAll wordsB at hx
  have h1 := (List.mem_filter.1 hx).1
  have hp : ∀ (c : UInt8) (l : List UInt8), ∀ x ∈ pieces c l, x.length ≤ l.length := by
    intro c l
    induction l with
    | nil => intro x hx; simp [pieces] at hx; simp [hx]
    | cons a r ih =>
      intro x hx
      unfold pieces at hx
      split at hx
      · rcases List.mem_cons.1 hx with rfl | hx
        · simp
        · exact Nat.le_succ_of_le (ih x hx)
      · split at hx
        · next h t e =>
          rcases List.mem_cons.1 hx with rfl | hx
          · have := ih h (by rw [e]; simp)
            simp; omega
          · exact Nat.le_succ_of_le (ih x (by rw [e]; simp [hx]))
        · simp at hx; simp [hx]
  exact Nat.le_trans (hp 32 _ x h1) (cut1_len 35 l).1

/-- The count at most 65: what the program keeps. -/
def Pol.clip (p : Pol) : Pol := { p with cn := min p.cn 65 }
theorem clip_put (p : Pol) (k : Nat) (n : Int) : (p.putD k n).clip = p.clip.put k n := by
  unfold Pol.putD Pol.put Pol.clip
  split <;> simp
theorem clip_may (p : Pol) : p.clip.may ↔ p.may := by
  unfold Pol.may Pol.clip Pol.ages
  simp only
  constructor <;> rintro ⟨h1, h2, h3⟩ <;> exact ⟨h1, by omega, h3⟩
theorem clip_same {p : Pol} (h : p.may) : p.clip = p := by
  unfold Pol.clip
  obtain ⟨_, h2, _⟩ := h
  have : min p.cn 65 = p.cn := by omega
  rw [this]
theorem readR_take (ws : List (List UInt8)) : readR (ws.take 4) = readR ws := by
  match ws with
  | [] | [_] | [_, _] | [_, _, _] => rfl
  | a :: b :: c :: d :: t => rfl
/-- The pieces, where the first has begun. -/
def pOn (cur l : List UInt8) : List (List UInt8) :=
  match pieces 10 l with
  | h :: t => (cur ++ h) :: t
  | [] => [cur]
theorem pOn_nil (l : List UInt8) : pOn [] l = pieces 10 l := by
  unfold pOn
  cases h : pieces 10 l with
  | nil => exact absurd h (pieces_ne 10 l)
  | cons a t => rfl
theorem pOn_end (cur : List UInt8) : pOn cur [] = [cur] := by
  unfold pOn
  simp [pieces]
theorem pOn_cut (cur r : List UInt8) : pOn cur (10 :: r) = cur :: pOn [] r := by
  rw [pOn_nil]
  unfold pOn
  simp [pieces]
theorem pOn_step {c : UInt8} (cur r : List UInt8) (h : c ≠ 10) : pOn cur (c :: r) = pOn (cur ++ [c]) r := by
  unfold pOn
  cases e : pieces 10 r with
  | nil => exact absurd e (pieces_ne 10 r)
  | cons a t => simp [pieces, h, e]
/-- What the document's Parse holds; i is where it stands. -/
structure DPI (w wr : World) (g2 g5 g6 : Nat) (l : List UInt8) (fr n i : Nat) (p : Pol) (said : List Bool) (R : Pol × Int × Int) : Prop where
  le : fr ≤ i
  li : i ≤ l.length + 1
  cnt : n ≤ i
  says : R = parseOn n p.clip said (if i ≤ l.length then pOn ((l.drop fr).take (i - fr)) (l.drop i) else [])
  on : LI wr g5 g6 p said
  hz : PHold wr g2 Pol.zero
  fz : Open6 wr g2
  below : Below w.heap.size w wr
  n2 : w.heap.size ≤ g2
  n5 : g2 < g5
  n6 : g2 < g6
theorem DPI.past {w wr wr' : World} {g2 g5 g6 fr n i fr' n' i' : Nat} {l : List UInt8} {p p' : Pol} {s s' : List Bool} {R : Pol × Int × Int} (h : DPI w wr g2 g5 g6 l fr n i p s R) (hb : ∀ B, B ≤ g5 → B ≤ g6 → B ≤ wr.heap.size → Below B wr wr') (ho : LI wr' g5 g6 p' s')
    (h1 : fr' ≤ i') (h2 : i' ≤ l.length + 1) (h3 : n' ≤ i') (h4 : R = parseOn n' p'.clip s' (if i' ≤ l.length then pOn ((l.drop fr').take (i' - fr')) (l.drop i') else [])) : DPI w wr' g2 g5 g6 l fr' n' i' p' s' R := by
  have hs := h.below.size
  have h5 := h.n5
  have h6 := h.n6
  have hn2 := h.n2
  have hl := h.on.lp
  have hb2 := hb (g2 + 1) (by omega) (by omega) (by omega)
  have hc : ∀ i, wr'.cell? ⟨g2, i, none⟩ = wr.cell? ⟨g2, i, none⟩ := fun i => hb2.cell (Nat.lt_succ_self g2)
  have hf : ∀ i, wr'.frozen? ⟨g2, i, none⟩ = wr.frozen? ⟨g2, i, none⟩ := fun i => hb2.frozen (Nat.lt_succ_self g2)
  refine ⟨h1, h2, h3, h4, ho, ?_, ?_, ?_, hn2, h5, h6⟩
  · obtain ⟨a0, a1, a2, a3, a4, a5⟩ := h.hz
    exact ⟨by rw [hc]; exact a0, by rw [hc]; exact a1, by rw [hc]; exact a2, by rw [hc]; exact a3, by rw [hc]; exact a4, by rw [hc]; exact a5⟩
  · intro i hi
    rw [hf]
    exact h.fz i hi
  · exact h.below.trans (hb w.heap.size (by omega) (by omega) hs)

theorem Tryd.info4 : (Tryd.prog.info? 4).map (fun i => (i.zero, i.size, i.bytes)) = some (some (.bool false), 1, 1) := by kernel_rfl
theorem make_six (w : World) : (Instr.makeSlice 110 (.int .i64 6) (.int .i64 6)).run Tryd.prog w = .ok (.slice (some ⟨w.heap.size, 0, none⟩) 6 6) (w.alloc (.cells #[.bool false, .bool false, .bool false, .bool false, .bool false, .bool false] 4)) := by
  obtain ⟨i0, hi, hz0, hz1, hz2⟩ := info_parts Tryd.info4
  have h := run_makeSlice w 110 4 i0 (.bool false) Tryd.underlying110 hi hz0 .i64 .i64 6 6 (by decide) (by decide) (by rw [hz1]; decide) (by rw [hz2]; decide) (by decide)
  have e : madeCells (Value.bool false).cells ((6 : Int).toNat * 1) = #[.bool false, .bool false, .bool false, .bool false, .bool false, .bool false] := by
    simp [madeCells, go_sem]
  rw [hz1, e] at h
  exact h
set_option maxHeartbeats 8000000 in
theorem dparse_any (l : List UInt8) (w : World) (hl : l.length ≤ 1000000) :
    Calls Tryd.prog 54 #[str l] w fun e w' => e = .returned (.tuple #[(parse l).1.val, .int .i64 (parse l).2.1, .int .i64 (parse l).2.2]) ∧ Below w.heap.size w w' := by
  have M0 := Lib.hid (fun w => refdefault_any w)
  have hmk := make_six
  unfold Pol.dflt Pol.val at M0
  obtain ⟨R, hR⟩ : ∃ R, parse l = R := ⟨_, rfl⟩
  rw [hR]
  have hx := str_at l
  have hsz : (⟨l.toArray⟩ : ByteArray).size = l.length := rfl
  have HSL := Lib.hid (fun fr i h1 h2 w => slice_text l fr i h1 h2 (by omega) w)
  have HR := Lib.hid hR
  unfold str at *
  have HX := Lib.hid hx
  have HSZ := Lib.hid hsz
  have HL := Lib.hid hl
  generalize (⟨l.toArray⟩ : ByteArray) = t at *
  have hts : t.size ≤ 1000000 := by omega
  clear hR hl hx hsz
  go_enter Tryd.func54, Tryd.ntmps54
  go_wp2_with fail
  refine (M0.out _).mono ?_
  rintro e w2 ⟨rfl, hb2⟩
  have hb0 : Below w.heap.size w (w.alloc (.cells #[.int .i64 0, .int .i64 0, .int .i64 0, .int .i64 0, .int .i64 0, .int .i64 0] 39)) := past_alloc (Below.refl _ _) _
  have hlt2 : w.heap.size < w2.heap.size := by have := hb2.size; simp at this; omega
  have HST : Hid (DPI w ((w2.alloc (.cells #[.int .i64 60, .int .i64 600, .int .i64 6000, .int .i64 0, .int .i64 8, .int .i64 30] 39)).alloc (.cells #[.bool false, .bool false, .bool false, .bool false, .bool false, .bool false] 4)) w.heap.size w2.heap.size (w2.heap.size + 1) l 0 0 0 Pol.dflt saidNone R) := Lib.hid (by
    have hz0 : PHold w2 w.heap.size Pol.zero := PHold.below (w := w.alloc (.cells #[.int .i64 0, .int .i64 0, .int .i64 0, .int .i64 0, .int .i64 0, .int .i64 0] 39)) (by unfold PHold Pol.zero; simp) (by simp) hb2
    have hf0 : Open6 w2 w.heap.size := Open6.below (w := w.alloc (.cells #[.int .i64 0, .int .i64 0, .int .i64 0, .int .i64 0, .int .i64 0, .int .i64 0] 39)) (fun i hi => by simp) (by simp) hb2
    have hba : Below w2.heap.size w2 ((w2.alloc (.cells #[.int .i64 60, .int .i64 600, .int .i64 6000, .int .i64 0, .int .i64 8, .int .i64 30] 39)).alloc (.cells #[.bool false, .bool false, .bool false, .bool false, .bool false, .bool false] 4)) := past_alloc (past_alloc (Below.refl _ _) _) _
    refine ⟨Nat.le_refl _, by omega, Nat.le_refl _, ?_, ⟨?_, ?_, ?_, ?_, ?_, ?_, ?_, rfl⟩, hz0.below hlt2 hba, hf0.below hlt2 hba, past (past hb0 hb2) hba, Nat.le_refl _, hlt2, by omega⟩
    · rw [← HR.out, if_pos (Nat.zero_le _)]
      simp only [List.drop_zero, List.take_zero, Nat.sub_self, pOn_nil]
      rfl
    · unfold PHold Pol.dflt; simp
    · intro i hi
      match i, hi with
      | 0, _ | 1, _ | 2, _ | 3, _ | 4, _ | 5, _ => simp [saidNone]
    · intro i hi; simp
    · intro i hi; simp
    · simp; omega
    · simp
    · omega)
  clear hb0 hb2 hlt2 M0 HR
  go_wp2
  generalize (w2.alloc (.cells #[.int .i64 60, .int .i64 600, .int .i64 6000, .int .i64 0, .int .i64 8, .int .i64 30] 39)).alloc (.cells #[.bool false, .bool false, .bool false, .bool false, .bool false, .bool false] 4) = ws at *
  generalize w2.heap.size + 1 = g6 at *
  generalize w2.heap.size = g5 at *
  obtain ⟨g2, hg2⟩ : ∃ g2, g2 = w.heap.size := ⟨_, rfl⟩
  have HST2 : Hid (DPI w ws g2 g5 g6 l 0 0 0 Pol.dflt saidNone R) := by rw [hg2]; exact HST
  rw [← hg2]
  clear hg2 HST
  go_loopw [7, 8, 9, 10] (fun s7 s8 s9 s10 wr => ∃ (fr n i : Nat) (p : Pol) (said : List Bool), s7 = .int .i64 (fr : Int) ∧ s8 = .int .i64 (n : Int) ∧ s9 = .int .i64 (i : Int) ∧ i ≤ t.size + 1 ∧ Hid (DPI w wr g2 g5 g6 l fr n i p said R)) (fun _ _ s9 _ _ => t.size + 1 - (intOf s9).toNat)
  case atStart => exact ⟨0, 0, 0, Pol.dflt, saidNone, rfl, rfl, rfl, by omega, HST2⟩
  case round =>
    obtain ⟨fr, n, i, p, said, rfl, rfl, rfl, hit, HI⟩ := hrel
    clear HST2
    by_cases hend : i ≤ t.size
    case neg =>
      have k0 : ¬ (i : Int) ≤ (t.size : Int) := by omega
      have HS : Hid (R = if p.may then (p, 0, 0) else (Pol.zero, 5, 0)) := Lib.hid (by
        have h := HI.out.says
        rw [if_neg (by rw [← HSZ.out]; exact hend)] at h
        rw [h, parseOn]
        by_cases hm : p.may
        · rw [if_pos ((clip_may p).2 hm), if_pos hm, clip_same hm]
        · rw [if_neg (fun e => hm ((clip_may p).1 e)), if_neg hm])
      have m1 := fun w => maypol_any p w
      obtain ⟨c0, c1, c2, c3, c4, c5⟩ := HI.out.on.hp
      obtain ⟨b, hb⟩ : ∃ b, b = decide p.may := ⟨_, rfl⟩
      simp only [← hb] at m1
      have HB := Lib.hid hb
      have HI2 := Lib.hid (show ∀ w4, Below wr.heap.size wr w4 → DPI w w4 g2 g5 g6 l fr n i p said R from fun w4 h4 => HI.out.past (fun B _ _ hB => h4.mono hB) (HI.out.on.on h4) HI.out.le HI.out.li HI.out.cnt HI.out.says)
      clear hb HI
      obtain ⟨a0, a1, a2, a3, cn, sp⟩ := p
      unfold Pol.val at m1
      simp only at m1 c0 c1 c2 c3 c4 c5
      have M1 := Lib.hid m1
      clear m1
      go_wp2_with fail
      refine (M1.out _).mono ?_
      rintro e w4 ⟨rfl, hb4⟩
      have HI4 := Lib.hid (HI2.out _ hb4)
      clear c0 c1 c2 c3 c4 c5 M1 HI2 hb4
      obtain ⟨c0, c1, c2, c3, c4, c5⟩ := HI4.out.on.hp
      obtain ⟨z0, z1, z2, z3, z4, z5⟩ := HI4.out.hz
      have f0 := HI4.out.fz 0 (by decide)
      have f1 := HI4.out.fz 1 (by decide)
      have f2 := HI4.out.fz 2 (by decide)
      have f3 := HI4.out.fz 3 (by decide)
      have f4 := HI4.out.fz 4 (by decide)
      have f5 := HI4.out.fz 5 (by decide)
      unfold Pol.zero at z0 z1 z2 z3 z4 z5
      simp only at c0 c1 c2 c3 c4 c5 z0 z1 z2 z3 z4 z5
      have HG : Hid (Below w.heap.size w w4 ∧ w.heap.size ≤ g2) := Lib.hid ⟨HI4.out.below, HI4.out.n2⟩
      clear HI4
      cases b
      · have HF : Hid (R = (Pol.zero, 5, 0)) := Lib.hid (by rw [HS.out, if_neg (of_decide_eq_false HB.out.symm)])
        clear HS HB
        go_wp2
        (try rw [Exit.noGoto_ret])
        refine bodyPost_ret (v := .tuple #[.agg #[.int .i64 0, .int .i64 0, .int .i64 0, .int .i64 0, .int .i64 0, .int .i64 0], .int .i64 5, .int .i64 0]) ?_ rfl ⟨?_, ?_⟩
        · simp [results, Tryd.results54, go_sem, *]
        · rw [HF.out]; rfl
        · exact below_set6 HG.out.1 HG.out.2
      · have HF : Hid (R = (⟨a0, a1, a2, a3, cn, sp⟩, 0, 0)) := Lib.hid (by rw [HS.out, if_pos (of_decide_eq_true HB.out.symm)])
        clear HS HB
        go_wp2
        (try rw [Exit.noGoto_ret])
        refine bodyPost_ret (v := .tuple #[.agg #[.int .i64 a0, .int .i64 a1, .int .i64 a2, .int .i64 a3, .int .i64 cn, .int .i64 sp], .int .i64 0, .int .i64 0]) ?_ rfl ⟨?_, ?_⟩
        · simp [results, Tryd.results54, go_sem, *]
        · rw [HF.out]; rfl
        · exact below_set6 HG.out.1 HG.out.2
    have k0 : (i : Int) ≤ (t.size : Int) := by omega
    have hfi := HI.out.le
    have hni := HI.out.cnt
    obtain ⟨cur, hcur⟩ : ∃ cur, cur = (l.drop fr).take (i - fr) := ⟨_, rfl⟩
    have hcl : cur.length = i - fr := by rw [hcur, List.length_take, List.length_drop, ← HSZ.out]; omega
    have hsays : R = parseOn n p.clip said (pOn cur (l.drop i)) := by
      rw [hcur]
      have := HI.out.says
      rw [if_pos (by rw [← HSZ.out]; exact hend)] at this
      exact this
    have hj : IntKind.i64.wrap ((i : Int) + 1) = ((i + 1 : Nat) : Int) := by rw [IntKind.wrap_i64]; omega
    by_cases hten : i < t.size ∧ l.getD i 0 ≠ 10
    case pos =>
      have k1 : (i : Int) < (t.size : Int) := by omega
      obtain ⟨hten1, hten2⟩ := hten
      have hxi := HX.out i hten1
      obtain ⟨c0, hc0⟩ : ∃ c0, l.getD i 0 = c0 := ⟨_, rfl⟩
      rw [hc0] at hxi hten2
      obtain ⟨c, hc⟩ : ∃ c, c0.toNat = c := ⟨_, rfl⟩
      rw [hc] at hxi
      have c10 : c ≠ 10 := fun e => hten2 (UInt8.toNat_inj.1 (by rw [hc, e]; rfl))
      have q1 : ((c : Int) != 10) = true := by simp; omega
      have HNX : Hid (DPI w wr g2 g5 g6 l fr n (i + 1) p said R) := Lib.hid (HI.out.past (fun B _ _ hB => (Below.refl _ _).mono hB) HI.out.on (by omega) (by rw [← HSZ.out]; omega) (by omega) (by
        rw [if_pos (by rw [← HSZ.out]; omega), hsays, drop_get (by rw [← HSZ.out]; exact hten1), hc0, pOn_step _ _ hten2]
        congr 2
        have hlen : i - fr < (l.drop fr).length := by rw [List.length_drop, ← HSZ.out]; omega
        rw [show i + 1 - fr = (i - fr) + 1 by omega, List.take_succ_eq_append_getElem hlen, ← hcur]
        congr 2
        rw [List.getElem_drop]
        rw [List.getD_eq_getElem?_getD, List.getElem?_eq_getElem (by rw [← HSZ.out]; exact hten1)] at hc0
        rw [← hc0]
        simp only [Option.getD_some]
        congr 1
        omega))
      clear hcur hcl hsays hten2 HI hc hc0 c10 hfi hni
      go_wp2
      go_roundw
      case rel => exact ⟨fr, n, i + 1, p, said, rfl, rfl, by go_num, by omega, HNX⟩
      case measure => simp [intOf]; omega
    have hrest : pOn cur (l.drop i) = cur :: (if i + 1 ≤ l.length then pOn [] (l.drop (i + 1)) else []) := by
      by_cases h : i < t.size
      · have h10 : l.getD i 0 = 10 := by
          rcases Decidable.em (l.getD i 0 = 10) with e | e
          · exact e
          · exact absurd ⟨h, e⟩ hten
        rw [drop_get (by rw [← HSZ.out]; exact h), h10, pOn_cut, if_pos (by rw [← HSZ.out]; omega)]
      · rw [List.drop_eq_nil_of_le (by rw [← HSZ.out]; omega), pOn_end, if_neg (by rw [← HSZ.out]; omega)]
    have hrun : ∀ w, (Instr.slice 9 (.string t) (some (.int .i64 (fr : Int))) (some (.int .i64 (i : Int))) none).run Tryd.prog w = .ok (.string ⟨cur.toArray⟩) w := fun w => by
      have := HSL.out fr i hfi (by rw [← HSZ.out]; exact hend) w
      rw [← hcur] at this
      exact this
    go_upto_region 7 with fail
    go_cut [28] (fun s28 wx => s28 = .bool false ∧ wx = wr)
    case first =>
      by_cases h : i < t.size
      · have k1 : (i : Int) < (t.size : Int) := by omega
        have hxi := HX.out i h
        have h10 : l.getD i 0 = 10 := by
          rcases Decidable.em (l.getD i 0 = 10) with e | e
          · exact e
          · exact absurd ⟨h, e⟩ hten
        rw [h10] at hxi
        have hxi2 : t[i].toNat = 10 := hxi
        clear hxi h10 hten hrest hsays hcur hrun
        go_wp2
        go_meet
        case rel => exact ⟨rfl, rfl⟩
      · have k1 : ¬ (i : Int) < (t.size : Int) := by omega
        clear hten hrest hsays hcur hrun
        go_wp2
        go_meet
        case rel => exact ⟨rfl, rfl⟩
    case rest =>
      obtain ⟨rfl, hwc⟩ := hcut
      rw [hwc]
      clear hwc
      obtain ⟨W, hW⟩ : ∃ W, W = wordsAll cur := ⟨_, rfl⟩
      obtain ⟨REST, hREST⟩ : ∃ REST, REST = (if i + 1 ≤ l.length then pOn [] (l.drop (i + 1)) else []) := ⟨_, rfl⟩
      have hrest' : (if i + 1 ≤ l.length then pOn ((l.drop (i + 1)).take (i + 1 - (i + 1))) (l.drop (i + 1)) else []) = REST := by
        rw [hREST, Nat.sub_self, List.take_zero]
      rw [← hREST] at hrest
      rw [hrest, parseOn] at hsays
      have hwt : words cur = W.take 4 := by rw [hW]; exact words_all cur
      rw [hwt, readR_take] at hsays
      have hWl : ∀ x ∈ W, x.length < 4611686018427387904 := fun x hx => by
        rw [hW] at hx
        have := words_len cur x hx
        omega
      have m2 := dwords_any cur wr (by omega)
      unfold DWordsPost at m2
      rw [← hW] at m2
      have M2 := Lib.hid m2
      have HSAY := Lib.hid hsays
      have HREST := Lib.hid hrest'
      have HWL := Lib.hid hWl
      have hn1 : IntKind.i64.wrap ((n : Int) + 1) = ((n + 1 : Nat) : Int) := by rw [IntKind.wrap_i64]; omega
      have HNI : Hid (n + 1 ≤ i + 1) := Lib.hid (by omega)
      have HLI : Hid (i + 1 ≤ l.length + 1) := Lib.hid (by rw [← HSZ.out]; omega)
      clear m2 hwt hsays hrest hrest' hREST hW hWl hcur hcl hten HX HSL hni
      unfold str at M2
      go_wp2_with fail
      refine M2.out.mono ?_
      rintro e w4 ⟨v, rfl, hown, hb4⟩
      obtain ⟨A, ca, hv⟩ : ∃ A ca, v = .slice A W.length ca := by
        rcases hown.2 with ⟨e, h0⟩ | ⟨g, cap, cur, e, _⟩
        · exact ⟨none, 0, by rw [h0]; exact e⟩
        · exact ⟨_, _, e⟩
      subst hv
      have HO := Lib.hid hown
      have HI4 : Hid (DPI w w4 g2 g5 g6 l fr n i p said R) := Lib.hid (HI.out.past (fun B _ _ hB => hb4.mono hB) (HI.out.on.on hb4) HI.out.le HI.out.li HI.out.cnt HI.out.says)
      have HG5 : Hid (g5 < wr.heap.size ∧ g6 < wr.heap.size) := Lib.hid ⟨HI.out.on.lp, HI.out.on.ls⟩
      clear hown hb4 M2 HI
      by_cases hw0 : W = []
      · have h0 : (W.length : Int) = 0 := by rw [hw0]; rfl
        have HNX : Hid (DPI w w4 g2 g5 g6 l (i + 1) (n + 1) (i + 1) p said R) := Lib.hid (HI4.out.past (fun B _ _ hB => (Below.refl _ _).mono hB) HI4.out.on (Nat.le_refl _) HLI.out HNI.out (by
          rw [HREST.out, HSAY.out, hw0]
          rfl))
        have h0' : ¬ (W.length : Int) > 0 := by omega
        clear hw0 HI4 HO HSAY HREST
        go_wp2
        go_roundw
        case rel => exact ⟨i + 1, n + 1, i + 1, p, said, by go_num, by go_num, by go_num, by omega, HNX⟩
        case measure => simp [intOf]; omega
      have h0 : (W.length : Int) > 0 := by
        have : W.length ≠ 0 := fun e => hw0 (List.eq_nil_of_length_eq_zero e)
        omega
      have M3 := Lib.hid (line_any g5 g6 W _ p said w4 HI4.out.on HWL.out HG5.out.1 HG5.out.2 HO.out)
      have HF : Hid (R = if (readR W).2.2 && !(said.getD (readR W).1 false) then parseOn (n + 1) (p.clip.put (readR W).1 (readR W).2.1) (said.set (readR W).1 true) REST else (Pol.zero, 4, (n : Int) + 1)) := Lib.hid (by
        rw [HSAY.out, if_neg]
        intro e
        have : (W.take 4).length = 0 := by rw [e]; rfl
        rw [List.length_take] at this
        omega)
      obtain ⟨L, hL⟩ : ∃ L, lineD W p said = L := ⟨_, rfl⟩
      rw [hL] at M3
      have HLL := Lib.hid hL
      obtain ⟨okL, pL, sL⟩ := L
      clear hw0 HSAY HO hL
      go_wp2_with fail
      refine M3.out.mono ?_
      rintro e w5 ⟨rfl, hli, hbl⟩
      clear M3
      simp only at hli hbl
      cases okL
      case false =>
        have HE : Hid (R = (Pol.zero, 4, (n : Int) + 1)) := Lib.hid (by
          rw [HF.out, if_neg]
          intro h
          have h1 := HLL.out
          unfold lineD at h1
          rw [if_pos h] at h1
          cases h1)
        have HZ5 : Hid (PHold w5 g2 Pol.zero ∧ Open6 w5 g2 ∧ Below w.heap.size w w5 ∧ w.heap.size ≤ g2) := Lib.hid (by
          have e1 : pL = p ∧ sL = said := by
            have h1 := HLL.out
            unfold lineD at h1
            split at h1
            · cases h1
            · cases h1; exact ⟨rfl, rfl⟩
          obtain ⟨rfl, rfl⟩ := e1
          have h := HI4.out.past hbl hli HI4.out.le HI4.out.li HI4.out.cnt HI4.out.says
          exact ⟨h.hz, h.fz, h.below, h.n2⟩)
        clear hli hbl HF HLL HI4
        obtain ⟨z0, z1, z2, z3, z4, z5⟩ := HZ5.out.1
        have f0 := HZ5.out.2.1 0 (by decide)
        have f1 := HZ5.out.2.1 1 (by decide)
        have f2 := HZ5.out.2.1 2 (by decide)
        have f3 := HZ5.out.2.1 3 (by decide)
        have f4 := HZ5.out.2.1 4 (by decide)
        have f5 := HZ5.out.2.1 5 (by decide)
        unfold Pol.zero at z0 z1 z2 z3 z4 z5
        simp only at z0 z1 z2 z3 z4 z5
        go_wp2
        (try rw [Exit.noGoto_ret])
        refine bodyPost_ret (v := .tuple #[.agg #[.int .i64 0, .int .i64 0, .int .i64 0, .int .i64 0, .int .i64 0, .int .i64 0], .int .i64 4, .int .i64 ((n + 1 : Nat) : Int)]) ?_ rfl ⟨?_, ?_⟩
        · simp [results, Tryd.results54, go_sem, *]
        · rw [HE.out]; rfl
        · exact below_set6 HZ5.out.2.2.1 HZ5.out.2.2.2
      have HNX : Hid (DPI w w5 g2 g5 g6 l (i + 1) (n + 1) (i + 1) pL sL R) := Lib.hid (by
        have h1 := HLL.out
        unfold lineD at h1
        split at h1
        · next hc =>
          have h2 := HF.out
          rw [if_pos hc] at h2
          cases h1
          refine HI4.out.past hbl hli (Nat.le_refl _) HLI.out HNI.out ?_
          rw [HREST.out, h2, clip_put]
        · cases h1)
      clear hli hbl HF HLL HI4
      go_wp2
      go_roundw
      case rel => exact ⟨i + 1, n + 1, i + 1, pL, sL, by go_num, by go_num, by go_num, by omega, HNX⟩
      case measure => simp [intOf]; omega
end Go.Proofs.YtdpoahjgdndnhaaDoor
