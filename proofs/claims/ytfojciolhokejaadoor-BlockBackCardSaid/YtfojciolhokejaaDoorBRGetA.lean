/-
  The document's own answer for windows' bytes: what it returns of every string; nothing that was there is written.
-/
import Derived.Test.YtfojciolhokejaaDoorBRAgg
namespace Go.Proofs.YtfojciolhokejaaDoor
open Go.RowKit
attribute [local go_sem ↓] Go.wp_at_zero Go.wp_at_succ
set_option linter.unusedVariables false

set_option maxRecDepth 100000 in
set_option maxHeartbeats 1000000 in
theorem aggs_many (bs : List Nat) (g : Nat) (s : ByteArray) (p : Nat) (bad : Bool) (k : Int) (w : World) (h : CAt w g s p bad) (hs : StrIs s bs) (hp : p ≤ bs.length) (hk : coarse k) (h64 : 64 < (numR bs p bad).1) :
    Calls Tryd.prog 40 #[.pointer (some ⟨g, 0, none⟩), .int .i64 k] w (AggPost bs g s (ablkAt bs (wid k) p bad) w) := by
  have MN := Lib.hid (fun w p bad h hp => num_any bs g s p bad w h hs hp)
  have HNL := Lib.hid (fun p bad hp => numR_le (bs := bs) (p := p) (bad := bad) hs.2.1 hp)
  have MW := Lib.hid (fun w => rwidth_any k w (by unfold coarse at hk; unfold In64; omega))
  have H := Lib.hid h
  have HP := Lib.hid hp
  have HL0 := HNL.out p bad hp
  have HR : Hid (ablkAt bs (wid k) p bad = ([], (numR bs p bad).2.1, true)) := Lib.hid (by
    unfold ablkAt
    rw [decide_eq_true h64, Bool.or_true]
    obtain ⟨m, hm⟩ : ∃ m, (numR bs p bad).1 = m + 1 := ⟨(numR bs p bad).1 - 1, by omega⟩
    rw [hm]
    rfl)
  rw [HR.out]
  clear hs h hp HR hk
  generalize wid k = W at *
  go_enter Tryd.func40, Tryd.ntmps40
  go_wp2_with fail
  refine (MN.out _ _ _ H.out HP.out).mono ?_
  rintro e w1 ⟨rfl, hc1, hg1⟩
  generalize numR bs p bad = y at *
  obtain ⟨n, p1, bad1⟩ := y
  simp only at *
  have HC2 := Lib.hid (c_bad hc1)
  have HG2 := Lib.hid (hg1.trans (g_bad w1 g (.bool true)))
  have hcc := hc1.c2
  have hcf := hc1.f2
  have hc64 : (64 : Int) < (n : Int) := by omega
  have hown : Hid ((w1.setCell ⟨g, 2, none⟩ (.bool true)).ownsRow w.heap.size 70 7 (.slice none 0 0) 0 []) := Lib.hid (World.ownsRow_nil _ _ _ _)
  clear hc1 hg1 MN
  obtain ⟨N, hN⟩ : ∃ N, IntKind.i64.wrap (n : Int) = N := ⟨_, rfl⟩
  go_wp2_with fail
  refine (MW.out _).mono ?_
  rintro e w2 ⟨rfl, rfl⟩
  have cb := HC2.out.c2
  generalize w1.setCell ⟨g, 2, none⟩ (.bool true) = w3 at *
  by_cases h0 : 0 < N
  all_goals
    go_wp2
    refine wp_loop_rounds 1 ?_
    rw [rounds_succ]
    go_wp2
    (try rw [Exit.noGoto_ret])
    go_ret
    exact ⟨_, rfl, hown.out, fun _ h => by simp at h, HC2.out, HL0.1, HG2.out⟩
theorem aggs_any (bs : List Nat) (g : Nat) (s : ByteArray) (p : Nat) (bad : Bool) (k : Int) (w : World) (h : CAt w g s p bad) (hs : StrIs s bs) (hp : p ≤ bs.length) (hk : coarse k) :
    Calls Tryd.prog 40 #[.pointer (some ⟨g, 0, none⟩), .int .i64 k] w (AggPost bs g s (ablkAt bs (wid k) p bad) w) := by
  rcases Nat.lt_or_ge 64 (numR bs p bad).1 with h64 | h64
  · exact aggs_many bs g s p bad k w h hs hp hk h64
  · exact aggs_go bs g s p bad k w h hs hp hk h64
theorem own7_less {w : World} {base base' n : Nat} {V : Value} {xs : List Value} (h : w.ownsRow base 70 7 V n xs) (hb : base' ≤ base) : w.ownsRow base' 70 7 V n xs := by
  refine ⟨h.1, ?_⟩
  rcases h.2 with h | ⟨g, cap, cur, e, hg, r⟩
  · exact Or.inl h
  · exact Or.inr ⟨g, cap, cur, e, Nat.le_trans hb hg, r⟩
/-- What GetAggs returns, of a tier that there is. -/
def GetAPost (w : World) (r : Option (List Ag)) (e : Ending) (w' : World) : Prop :=
  (match r with
    | none => e = .returned (.tuple #[.slice none 0 0, .int .i64 2])
    | some l => ∃ V, e = .returned (.tuple #[V, .int .i64 0]) ∧ w'.ownsRow w.heap.size 70 7 V l.length (aggV l) ∧ ∀ a ∈ l, a.ok) ∧ Below w.heap.size w w'

set_option maxRecDepth 100000 in
set_option maxHeartbeats 1000000 in
theorem rgetaggs_in (bs : List Nat) (s : ByteArray) (k : Int) (w : World) (hs : StrIs s bs) (hk : coarse k) :
    Calls Tryd.prog 16 #[.string s, .int .i64 k] w (GetAPost w (getA (wid k) bs)) := by
  have MB := Lib.hid (fun g w h => aggs_any bs g s 0 false k w h hs (Nat.zero_le _) hk)
  have HS := Lib.hid hs
  have HC0 : Hid (CAt (w.alloc (.cells #[.string s, .int .i64 0, .bool false] 65)) w.heap.size s 0 false) := Lib.hid (by constructor <;> simp)
  have HK := Lib.hid hk
  have hk1 : ¬ k < 1 := by unfold coarse at hk; omega
  have hk3 : ¬ 3 < k := by unfold coarse at hk; omega
  clear hk
  go_enter Tryd.func16, Tryd.ntmps16
  go_wp2_with fail
  refine (MB.out _ _ HC0.out).mono ?_
  rintro e w1 ⟨V, rfl, hown, hin, hc1, _, hg1⟩
  rw [show ablkAt bs (wid k) 0 false = ablk bs (wid k) from rfl] at hown hin hc1
  have hsay := ablk_says HK.out hs.2.1
  generalize ablk bs (wid k) = R at *
  obtain ⟨l, q, bad⟩ := R
  simp only at *
  obtain ⟨A, cap, rfl, hS⟩ := rowOf_own hown hin
  have M1 := Lib.hid (rputaggs_any k rfl hS.2.1 hS.2.2.1 hS.2.2.2.1)
  have HB1 : Hid (Below w.heap.size w w1) := Lib.hid ⟨hg1.os, hg1.tape, hg1.output, Nat.le_trans (by simp) hg1.size, fun k hk => by
    rw [hg1.block k (by simp; omega) (fun e => by injection e with e; omega)]
    exact (past_alloc (Below.refl w.heap.size w) _).block k hk⟩
  have HOWN := Lib.hid (own7_less hown (base' := w.heap.size) (by simp))
  have HC1 := Lib.hid hc1
  have HIN := Lib.hid hin
  have HSAY := Lib.hid hsay
  generalize wid k = W at *
  have hne : Hid (putA W l ≠ bs → ((strB (putA W l)).toList == s.toList) = false) := Lib.hid (fun h2 => by
    rw [HS.out.eq, beq_eq_false_iff_ne]
    intro e
    rw [Lib.toList_data, Lib.toList_data] at e
    exact h2 (strB_inj (putA_byte W l) HS.out.2.1 (ByteArray.ext (Array.toList_inj.1 e))))
  have heq : Hid (putA W l = bs → strB (putA W l) = s) := Lib.hid (fun h => by rw [h]; exact HS.out.eq.symm)
  clear hown hin hc1 hg1 hS hsay hs HC0
  go_wp2_with fail
  refine M1.out.mono ?_
  rintro e w2 ⟨rfl, hb2⟩
  have HB2 : Hid (Below w.heap.size w w2) := Lib.hid (past HB1.out hb2)
  have HOWN2 := Lib.hid (own7_below HOWN.out hb2)
  have cb := (HC1.out.below hb2).c2
  clear hb2
  have HNO : Hid (¬ (bad = false ∧ AOk k l ∧ putA W l = bs) → GetAPost w (getA W bs) (.returned (.tuple #[.slice none 0 0, .int .i64 2])) w2) := Lib.hid (fun h => by
    rw [HSAY.out, if_neg h]
    exact ⟨rfl, HB2.out⟩)
  have HYES : Hid (bad = false ∧ AOk k l ∧ putA W l = bs → GetAPost w (getA W bs) (.returned (.tuple #[.slice A l.length cap, .int .i64 0])) w2) := Lib.hid (fun h => by
    rw [HSAY.out, if_pos h]
    exact ⟨⟨_, rfl, HOWN2.out, HIN.out⟩, HB2.out⟩)
  cases bad with
  | true =>
    have HQ := Lib.hid (HNO.out (by simp))
    generalize (if AOk k l then putA W l else []) = X
    generalize (if AOk k l then (0 : Int) else 1) = Y
    go_wp2
    (try rw [Exit.noGoto_ret])
    go_ret2
    exact HQ.out
  | false =>
    by_cases hok : AOk k l
    · rw [if_pos hok, if_pos hok]
      by_cases hp : putA W l = bs
      · have HQ := Lib.hid (HYES.out ⟨rfl, hok, hp⟩)
        rw [heq.out hp]
        go_wp2
        (try rw [Exit.noGoto_ret])
        go_ret2
        exact HQ.out
      · have HQ := Lib.hid (HNO.out (fun h => hp h.2.2))
        have hf := hne.out hp
        generalize strB (putA W l) = X at *
        go_wp2
        (try rw [Exit.noGoto_ret])
        go_ret2
        exact HQ.out
    · rw [if_neg hok, if_neg hok]
      have HQ := Lib.hid (HNO.out (fun h => hok h.2.1))
      generalize strB [] = X at *
      go_wp2
      (try rw [Exit.noGoto_ret])
      go_ret2
      exact HQ.out
end Go.Proofs.YtfojciolhokejaaDoor
