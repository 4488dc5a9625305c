/-
  wordsOf: the words of every line, at most four, in a row of its own; nothing that was there is written.
-/
import Derived.Test.YtdpoahjgdndnhaaDoorPMay
import Derived.Deep.AppendLies
namespace Go.Proofs.YtdpoahjgdndnhaaDoor
open Go.RowKit
set_option linter.unusedVariables false

theorem Tryd.info9 : (Tryd.prog.info? 9).map (fun i => (i.zero, i.size, i.bytes)) = some (some (.string ⟨#[]⟩), 1, 16) := by kernel_rfl

/-- A row of strings as cells. -/
def strsV (l : List (List UInt8)) : List Value := l.map str
theorem strsV_append (a b : List (List UInt8)) : strsV (a ++ b) = strsV a ++ strsV b := by simp [strsV]
theorem strsV_length (a : List (List UInt8)) : (strsV a).length = a.length := by simp [strsV]
theorem own1_below {w w' : World} {base n : Nat} {v : Value} {xs : List Value} (h : w.ownsRow base 9 1 v n xs) (hb : Below w.heap.size w w') : w'.ownsRow base 9 1 v n xs :=
  h.kept (row := none) ⟨hb.os, hb.tape, hb.output, hb.size, fun k hk _ => hb.block k hk⟩ (by cases v.ownBlock <;> simp)
theorem below_drewN (w : World) (n : Nat) : Below w.heap.size w (w.drewN n) := ⟨rfl, rfl, rfl, Nat.le_refl _, fun _ _ => rfl⟩

def WordsPost (l : List UInt8) (w : World) (e : Ending) (w' : World) : Prop :=
  ∃ v, e = .returned v ∧ w'.ownsRow w.heap.size 9 1 v (words l).length (strsV (words l)) ∧ Below w.heap.size w w'

/-- What the loop holds: rest r, words so far. -/
structure WInv (w wr : World) (l r : List UInt8) (out : List (List UInt8)) (v : Value) : Prop where
  len : r.length ≤ l.length
  few : out.length ≤ 3
  says : words l = (out ++ wordsB r).take 4
  own : wr.ownsRow w.heap.size 9 1 v out.length (strsV out)
  below : Below w.heap.size w wr

def lenS : Value → Nat
  | .string s => s.size
  | _ => 0

set_option maxRecDepth 100000 in
set_option maxHeartbeats 1000000 in
theorem wordsOf_any (l : List UInt8) (w : World) (hl : l.length < 4611686018427387904) : Calls Tryd.prog 82 #[str l] w (WordsPost l w) := by
  obtain ⟨i0, hi, hz0, hz1, hz2⟩ := info_parts Tryd.info9
  have M0 := Lib.hid (fun w => cut_any l 35 w hl)
  have HST : Hid (∀ n, WInv w (w.drewN n) l (cut1 35 l).1 [] (.slice none 0 0)) := Lib.hid (fun n => ⟨(cut1_len 35 l).1, by simp, by simp [words], World.ownsRow_nil _ _ _ _, below_drewN w n⟩)
  unfold str at *
  generalize (⟨l.toArray⟩ : ByteArray) = s0 at M0 ⊢
  obtain ⟨r0, hr0⟩ : ∃ r0, (cut1 35 l).1 = r0 := ⟨_, rfl⟩
  rw [hr0] at HST M0
  generalize (⟨(cut1 35 l).2.1.toArray⟩ : ByteArray) = s2 at M0
  generalize (cut1 35 l).2.2 = b2 at M0
  have HL := Lib.hid hl
  clear hr0 hl
  go_enter Tryd.func82, Tryd.ntmps82
  go_wp2
  go_step3
  go_wp2_with fail
  refine (M0.out _).mono ?_
  rintro e w' ⟨rfl, n, rfl⟩
  go_wp2
  go_step3
  go_wp2
  go_loopw [3, 6] (fun sr sv wr => ∃ (r : List UInt8) (out : List (List UInt8)), sr = .string ⟨r.toArray⟩ ∧ Hid (WInv w wr l r out sv)) (fun sr _ _ => lenS sr)
  case atStart => exact ⟨r0, [], rfl, Lib.hid (HST.out n)⟩
  case round =>
    obtain ⟨r, out, rfl, HI⟩ := hrel
    clear HST M0
    match r, HI with
    | [], HI =>
      have HN : Hid (words l = out) := Lib.hid (by
        rw [HI.out.says, wordsB_nil, List.append_nil, List.take_of_length_le (by have := HI.out.few; omega)])
      go_wp2
      (try rw [Exit.noGoto_ret])
      go_ret
      exact ⟨_, rfl, by rw [HN.out]; exact HI.out.own, HI.out.below⟩
    | c :: t, HI =>
      have M1 := Lib.hid (fun w => cut_any (c :: t) 32 w (Nat.lt_of_le_of_lt HI.out.len HL.out))
      unfold str at M1
      have hcl := cut1_len 32 (c :: t)
      have hlt : (cut1 32 (c :: t)).2.1.length < (c :: t).length := hcl.2.2 (by simp)
      have hsay := wordsB_cut (c :: t)
      obtain ⟨b, hb⟩ : ∃ b, (cut1 32 (c :: t)).2.1 = b := ⟨_, rfl⟩
      obtain ⟨x, hx⟩ : ∃ x, (cut1 32 (c :: t)).1 = x := ⟨_, rfl⟩
      rw [hb, hx] at M1 hsay
      rw [hb] at hlt
      generalize (cut1 32 (c :: t)).2.2 = b3 at M1
      have HLT := Lib.hid hlt
      have HSAY := Lib.hid hsay
      clear hcl hlt hsay hb hx
      match x with
      | [] =>
        have HNX : Hid (∀ n, WInv w (wr.drewN n) l b out u6) := Lib.hid (fun n => ⟨Nat.le_trans (Nat.le_of_lt HLT.out) HI.out.len, HI.out.few, by rw [HI.out.says, HSAY.out]; simp, own1_below HI.out.own (below_drewN _ _), past HI.out.below (below_drewN _ _)⟩)
        go_wp2_with fail
        refine (M1.out _).mono ?_
        rintro e w' ⟨rfl, n', rfl⟩
        go_wp2
        go_roundw
        case rel => exact ⟨b, out, rfl, Lib.hid (HNX.out n')⟩
        case measure => exact HLT.out
      | d :: v =>
        go_wp2_with fail
        refine (M1.out _).mono ?_
        rintro e w' ⟨rfl, n', rfl⟩
        have HI1 : Hid (WInv w (wr.drewN n') l (c :: t) out u6) := Lib.hid ⟨HI.out.len, HI.out.few, HI.out.says, own1_below HI.out.own (below_drewN _ _), past HI.out.below (below_drewN _ _)⟩
        generalize wr.drewN n' = w1 at *
        clear HI M1
        have HO : Hid ((w1.alloc (.cells #[.string ⟨(d :: v).toArray⟩] 9)).ownsRow w.heap.size 9 1 u6 out.length (strsV out)) := Lib.hid (own1_below HI1.out.own ((Below.refl _ _).alloc (Nat.le_refl _) _))
        have hfew := HI1.out.few
        have hsz := HI1.out.below.size
        go_wp2_with (at_builtin; refine wpList_append_own _ rfl _ _ 89 rfl w.heap.size 9 i0 (.string ⟨#[]⟩) 1 16 Tryd.underlying89 hi hz0 hz1 hz2 rfl (by decide) u6 out.length (strsV out) rfl HO.out ⟨w1.heap.size, 0, none⟩ 1 1 [.string ⟨(d :: v).toArray⟩] rfl rfl ?c1 ?c2 ?c3 ?c4 ?c5 ?_)
        case c1 =>
          intro j u hj
          match j, hj with
          | 0, hj => simp at hj; subst hj; simp [Addr.add]
        case c2 => intro u hu; simp at hu; subst hu; rfl
        case c3 => unfold maxLen; omega
        case c4 => omega
        case c5 => simp; omega
        intro v' wa hown hgrow hnil
        have HB : Hid (Below w.heap.size w wa) := Lib.hid ((past_alloc HI1.out.below _).grown hgrow (by simp; omega) (fun k h => (HI1.out.own.lt k h).1))
        have HN : Hid (wa.ownsRow w.heap.size 9 1 v' (out ++ [d :: v]).length (strsV (out ++ [d :: v]))) := Lib.hid (by
          rw [strsV_append, List.length_append]
          exact hown)
        have HW : Hid (words l = (out ++ [d :: v] ++ wordsB b).take 4) := Lib.hid (by rw [HI1.out.says, HSAY.out]; simp)
        obtain ⟨A, ca, hv⟩ : ∃ A ca, v' = .slice A (out.length + 1) ca := by
          rcases hown.2 with ⟨_, h0⟩ | ⟨g, cap, cur, e, _⟩
          · omega
          · exact ⟨_, _, e⟩
        subst hv
        clear hown hgrow hnil
        by_cases h3 : out.length = 3
        · have hi3 : (3 : Int) < ((out.length + 1 : Nat) : Int) := by omega
          have HF : Hid (words l = out ++ [d :: v]) := Lib.hid (by
            rw [HW.out, List.take_append_of_le_length (by simp; omega), List.take_of_length_le (by simp; omega)])
          clear h3
          go_wp2
          (try rw [Exit.noGoto_ret])
          go_ret
          exact ⟨_, rfl, by rw [HF.out]; exact HN.out, HB.out⟩
        · have hi3 : ((out.length + 1 : Nat) : Int) ≤ 3 := by omega
          have hfew2 : (out ++ [d :: v]).length ≤ 3 := by simp; omega
          have HF2 := Lib.hid hfew2
          clear h3 hfew2
          go_wp2
          go_roundw
          case rel => exact ⟨b, out ++ [d :: v], rfl, Lib.hid ⟨Nat.le_trans (Nat.le_of_lt HLT.out) HI1.out.len, HF2.out, HW.out, HN.out, HB.out⟩⟩
          case measure => exact HLT.out
end Go.Proofs.YtdpoahjgdndnhaaDoor
