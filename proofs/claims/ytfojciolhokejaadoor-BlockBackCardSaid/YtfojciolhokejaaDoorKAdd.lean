/-
  The landed block's add: numbers' bytes behind a row of the call's own; nothing else that was there is written.
-/
import Derived.Test.YtfojciolhokejaaDoorKLeaf
namespace Go.Proofs.YtfojciolhokejaaDoor
open Go.RowKit
set_option linter.unusedVariables false

theorem grown_of {w w' : World} (h : Below w.heap.size w w') (row : Option Nat) : w.grownBy w' row := ⟨h.os, h.tape, h.output, h.size, fun k hk _ => h.block k hk⟩
/-- A row of bytes of the call's own, made from block base on. -/
def ownB (w : World) (base g cap : Nat) (d : List Nat) : Prop := w.ownsRow base 5 1 (.slice (some ⟨g, 0, none⟩) d.length cap) d.length (bytesV d)
def AddPost (base g : Nat) (d ns : List Nat) (w : World) (e : Ending) (w' : World) : Prop :=
  ∃ g' cap', e = .returned (.slice (some ⟨g', 0, none⟩) (d ++ bytesOf ns).length cap') ∧ ownB w' base g' cap' (d ++ bytesOf ns) ∧ w.grownBy w' (some g) ∧ (g' = g ∨ w.heap.size ≤ g')
theorem bytesOf_take {ns : List Nat} {k : Nat} (h : k < ns.length) : bytesOf (ns.take (k + 1)) = bytesOf (ns.take k) ++ enc (ns.getD k 0) := by
  rw [List.take_succ_eq_append_getElem h, bytesOf_app]
  simp [bytesOf, h]
structure AddInv (base g : Nat) (d ns : List Nat) (w wr : World) (k g' cap' L : Nat) : Prop where
  len : L = (d ++ bytesOf (ns.take k)).length
  own : ownB wr base g' cap' (d ++ bytesOf (ns.take k))
  grown : w.grownBy wr (some g)
  at_ : g' = g ∨ w.heap.size ≤ g'

set_option maxRecDepth 100000 in
set_option maxHeartbeats 1000000 in
theorem add_any (base g cap : Nat) (d : List Nat) (h c : Nat) (ns : List Nat) (w : World) (ho : ownB w base g cap d) (hn : ∀ n ∈ ns, n < 18446744073709551616)
    (hcell : ∀ j, j < ns.length → w.cell? ⟨h, j, none⟩ = some (.int .u64 ((ns.getD j 0 : Nat) : Int))) (hne : h ≠ g) (h0 : 0 < ns.length) (h8 : ns.length ≤ 8) (hd : d.length ≤ 5000) (hb : base ≤ w.heap.size) (hc : ns.length ≤ c) :
    Calls Tryd.prog 23 #[.slice (some ⟨g, 0, none⟩) d.length cap, .slice (some ⟨h, 0, none⟩) ns.length c] w (AddPost base g d ns w) := by
  obtain ⟨i0, hi0, hz0, hz1, hz2⟩ := info_parts Tryd.info5
  have HN := Lib.hid hn
  obtain ⟨m, hm⟩ : ∃ m, ns.length = m := ⟨_, rfl⟩
  rw [hm] at h0 h8 hc hcell ⊢
  have HCELL := Lib.hid hcell
  have HM := Lib.hid hm
  have HLT : Hid (h < w.heap.size) := Lib.hid (World.block_lt_of_cell? w _ (hcell 0 h0))
  have HBL : Hid (∀ k, (bytesOf (ns.take k)).length ≤ 80) := Lib.hid (fun k => by
    have := bytesOf_len (ns.take k) (fun n hn2 => hn n (List.mem_of_mem_take hn2))
    have h2 : (ns.take k).length ≤ ns.length := by rw [List.length_take]; omega
    omega)
  have HST : Hid (AddInv base g d ns w w 0 g cap d.length) := Lib.hid ⟨by simp [bytesOf], by simpa [bytesOf] using ho, ⟨rfl, rfl, rfl, Nat.le_refl _, fun _ _ _ => rfl⟩, .inl rfl⟩
  have m64 : (m : Int) ≤ 8 := by omega
  clear hn hcell hm ho
  obtain ⟨L0, hL0⟩ : ∃ L0, d.length = L0 := ⟨_, rfl⟩
  rw [hL0] at HST hd ⊢
  have HL0 := Lib.hid hL0
  clear hL0
  go_enter Tryd.func23, Tryd.ntmps23
  go_wp2
  go_loopw [0, 9] (fun s0 s9 wr => ∃ (k g' cap' L : Nat), k ≤ m ∧ s9 = .int .i64 (k : Int) ∧ s0 = .slice (some ⟨g', 0, none⟩) L cap' ∧ Hid (AddInv base g d ns w wr k g' cap' L)) (fun _ s9 _ => m - (intOf s9).toNat)
  case atStart => exact ⟨0, g, cap, L0, by omega, rfl, rfl, HST⟩
  case round =>
    clear HST
    obtain ⟨k, g', cap', L, hk, rfl, rfl, HI⟩ := hrel
    by_cases hlt : k < m
    · have i1 : (k : Int) < (m : Int) := by omega
      have i2 : (0 : Int) ≤ (k : Int) := by omega
      have hl80 := HBL.out k
      have hLe : L ≤ 5080 := by
        have e := HI.out.len
        have e2 := HL0.out
        rw [List.length_append] at e
        omega
      have hcl : wr.cell? ⟨h, k, none⟩ = some (.int .u64 ((ns.getD k 0 : Nat) : Int)) := by
        rw [HI.out.grown.cell_far ⟨h, k, none⟩ HLT.out (fun e => by injection e with e; exact hne e)]
        exact HCELL.out k hlt
      have hN : ns.getD k 0 < 18446744073709551616 := HN.out _ (getD_mem (by rw [HM.out]; exact hlt))
      have HNX : Hid (∀ wa g2 cap2, ownB wa base g2 cap2 ((d ++ bytesOf (ns.take k)) ++ enc (ns.getD k 0)) → w.grownBy wa (some g) → (g2 = g ∨ w.heap.size ≤ g2) → AddInv base g d ns w wa (k + 1) g2 cap2 (L + (enc (ns.getD k 0)).length)) := Lib.hid (fun wa g2 cap2 h1 h2 h3 => by
        have e := bytesOf_take (ns := ns) (k := k) (by rw [HM.out]; exact hlt)
        refine ⟨?_, ?_, h2, h3⟩
        · rw [e, HI.out.len]
          simp only [List.length_append]
          omega
        · rw [e, ← List.append_assoc]
          exact h1)
      have MP := Lib.hid (fun w => put_any (ns.getD k 0) w hN)
      have hel := enc_len_le hN
      have hen := enc_ne (ns.getD k 0)
      generalize ns.getD k 0 = N at *
      have HD := Lib.hid HI.out.len
      have HOWN := Lib.hid HI.out.own
      have HGR := Lib.hid HI.out.grown
      have HAT := Lib.hid HI.out.at_
      generalize d ++ bytesOf (ns.take k) = D at *
      obtain ⟨E, hE⟩ : ∃ E, (enc N).length = E := ⟨_, rfl⟩
      rw [hE] at hel hen HNX
      clear hN hl80 HI
      go_wp2_with fail
      refine (MP.out _).mono ?_
      rintro e w1 ⟨gp, capp, rfl, hown1, hb1⟩
      rw [hE] at hown1 ⊢
      have HB1 := Lib.hid hb1
      have hsrc := (Bytes.own hown1 (enc_byte N)).1
      have HSRC : Hid (∀ j u, (bytesV (enc N))[j]? = some u → w1.cell? ((⟨gp, 0, none⟩ : Addr).add j) = some u) := Lib.hid (fun j u hj => by
        have hj2 : j < (enc N).length := by
          have := (List.getElem?_eq_some_iff.1 hj).1
          rwa [bytesV_length] at this
        rw [bytesV_get _ _ hj2] at hj
        injection hj with hj
        obtain ⟨ad, e, hcc⟩ := hsrc.2 (by omega)
        injection e with e
        subst e
        rw [← hj]
        exact hcc j hj2)
      have HO1 : Hid (w1.ownsRow base 5 1 (.slice (some ⟨g', 0, none⟩) L cap') L (bytesV D)) := Lib.hid (by
        have := HOWN.out
        unfold ownB at this
        rw [← HD.out] at this
        exact this.kept (row := none) (grown_of hb1 none) (Or.inr (by simp [Value.ownBlock])))
      have hsz : base ≤ w1.heap.size := Nat.le_trans hb (Nat.le_trans HGR.out.size hb1.size)
      have HLEN : Hid ((bytesV (enc N)).length = E * 1) := Lib.hid (by rw [bytesV_length, hE]; omega)
      clear hb1 hown1 hsrc hcl
      go_wp2_with (at_builtin; refine wpList_append_lies _ rfl _ _ 24 rfl base 5 i0 (.int .u8 0) 1 1 Tryd.underlying24 hi0 hz0 hz1 hz2 rfl (by decide) (.slice (some ⟨g', 0, none⟩) L cap') L (bytesV D) rfl HO1.out ⟨gp, 0, none⟩ E capp (bytesV (enc N)) rfl HLEN.out HSRC.out (bytesV_one _) hen ?c3 ?c4 hsz w1.heap.size rfl ?_)
      case c3 => unfold maxLen; omega
      case c4 => omega
      intro g2 cap2 wa hown2 hgrow hat hlt2
      have HN2 : Hid (AddInv base g d ns w wa (k + 1) g2 cap2 (L + E)) := Lib.hid (by
        have hg1 : w.grownBy w1 (some g) := HGR.out.trans (grown_of HB1.out _)
        refine HNX.out wa g2 cap2 ?_ ?_ ?_
        · unfold ownB
          rw [bytesV_append, List.length_append, hE, ← HD.out]
          exact hown2
        · refine grown_then hg1 hgrow (fun j e => ?_)
          simp only [Value.ownBlock, Option.some.injEq] at e
          subst e
          rcases HAT.out with e | e
          · exact .inr (by rw [e])
          · exact .inl e
        · rcases hat with e | e
          · simp only [Value.ownBlock, Option.some.injEq] at e
            subst e
            exact HAT.out
          · exact .inr (by rw [e]; exact hg1.size))
      clear hown2 hgrow hat hlt2
      go_wp2
      go_roundw
      case rel => exact ⟨k + 1, g2, cap2, L + E, by omega, by go_num, rfl, HN2⟩
      case measure => simp [intOf]; omega
    · obtain rfl : k = m := by omega
      have HF : Hid (AddPost base g d ns w (.returned (.slice (some ⟨g', 0, none⟩) L cap')) wr) := Lib.hid (by
        have e : ns.take k = ns := List.take_of_length_le (Nat.le_of_eq HM.out)
        have h1 := HI.out.len
        have h2 := HI.out.own
        rw [e] at h1 h2
        exact ⟨g', cap', by rw [h1], h2, HI.out.grown, HI.out.at_⟩)
      go_wp2
      go_ret
      exact HF.out
end Go.Proofs.YtfojciolhokejaaDoor
