/-
  Rows of bytes; bytes.Equal; entry's add: what each returns; nothing that was there is written.
-/
import Derived.Test.YtdpoahjgdndnhaaDoorEMath
import Derived.Test.YtdpoahjgdndnhaaDoorELeaf
import Derived.Test.YtdpoahjgdndnhaaDoorVRefGet
import Derived.Test.YtdpoahjgdndnhaaDoorVRef
import Derived.Laws.AppendOwnNone
import Derived.Deep.AppendLies
set_option maxRecDepth 100000
namespace Go.Proofs.YtdpoahjgdndnhaaDoor
open Go.RowKit
attribute [local go_sem ↓] Go.wp_at_zero Go.wp_at_succ
set_option linter.unusedVariables false

theorem below_box (w : World) (o : Obj) : Below w.heap.size w (w.alloc o) := (Below.refl _ _).alloc (Nat.le_refl _) _
theorem addr_add (b off j : Nat) : (⟨b, off, none⟩ : Addr).add j = ⟨b, off + j, none⟩ := by
  unfold Addr.add
  split
  · next e => rw [e]; rfl
  · rfl
theorem strB_inj {a b : List Nat} (ha : ∀ c ∈ a, c < 256) (hb : ∀ c ∈ b, c < 256) (h : strB a = strB b) : a = b := by
  have hl : a.length = b.length := by rw [← strB_size, ← strB_size, h]
  apply List.ext_getElem hl
  intro j h1 h2
  have k1 := strB_get a ha j (by rw [strB_size]; exact h1)
  have k2 := strB_get b hb j (by rw [strB_size]; exact h2)
  have e : ((strB a)[j]'(by rw [strB_size]; exact h1)).toNat = ((strB b)[j]'(by rw [strB_size]; exact h2)).toNat := by
    simp only [h]
  rw [k1, k2] at e
  simpa [h1, h2] using e
theorem strB_app (a b : List Nat) : strB a ++ strB b = strB (a ++ b) := by
  apply ByteArray.ext
  simp [strB, strOfNums]
theorem grown_then {a b c : World} {row row' : Option Nat} (h : a.grownBy b row) (k : b.grownBy c row') (hr : ∀ j, row' = some j → a.heap.size ≤ j ∨ row = some j) : a.grownBy c row :=
  ⟨k.os.trans h.os, k.tape.trans h.tape, k.output.trans h.output, Nat.le_trans h.size k.size, fun i hi hne => by
    rw [k.block i (Nat.lt_of_lt_of_le hi h.size) (fun e => by
      rcases hr i e.symm with h1 | h1
      · omega
      · exact hne h1.symm)]
    exact h.block i hi hne⟩
/-- A slice (at A, of n bytes, of that room) reads as the bytes bs. -/
structure BRow (w : World) (A : Option Addr) (n cap : Nat) (bs : List Nat) : Prop where
  bytes : Bytes w A bs
  len : bs.length = n
  le : n ≤ cap
  max : cap ≤ maxLen
  nil : A = none → cap = 0
theorem BRow.below {w w' : World} {A : Option Addr} {n cap : Nat} {bs : List Nat} (h : BRow w A n cap bs) (hb : Below w.heap.size w w') : BRow w' A n cap bs := ⟨h.bytes.below hb, h.len, h.le, h.max, h.nil⟩
theorem BRow.none (w : World) : BRow w none 0 0 [] := ⟨⟨fun s hs => by simp at hs, fun h => by simp at h⟩, rfl, Nat.le_refl _, Nat.zero_le _, fun _ => rfl⟩
theorem brow_of_own {w : World} {base n : Nat} {v : Value} {d : List Nat} (h : w.ownsRow base 5 1 v n (bytesV d)) (hb : ∀ c ∈ d, c < 256) : ∃ A cap, v = .slice A n cap ∧ BRow w A n cap d ∧ ∀ a, A = some a → base ≤ a.block := by
  have hn : d.length = n := by have := h.1; rw [bytesV_length] at this; omega
  rcases h.2 with ⟨e, e0⟩ | ⟨g, cap, cur, e, hbg, hh, h1, h2, _⟩
  · subst e0
    obtain rfl : d = [] := List.length_eq_zero_iff.1 hn
    exact ⟨Option.none, 0, e, BRow.none w, fun a h => by cases h⟩
  · subst e
    obtain ⟨s1, s2, s3, s4, s5, s6⟩ := Bytes.own h hb
    exact ⟨some ⟨g, 0, Option.none⟩, cap, rfl, ⟨s1, s2, s3, s4, fun e => by cases e⟩, fun a h => by injection h with h; subst h; exact hbg⟩
theorem BRow.take {w : World} {A : Option Addr} {n cap : Nat} {bs : List Nat} (h : BRow w A n cap bs) {k : Nat} (hk : k ≤ n) : BRow w A k cap (bs.take k) :=
  ⟨h.bytes.take k, by rw [List.length_take, h.len]; omega, Nat.le_trans hk h.le, h.max, h.nil⟩

/-- append(v, x...) of rows of bytes. -/
theorem wpList_append_brow {w : World} {ops : Array Oper} {rest : List Oper} {o : Oper} {a : Act} {Q : Exit → Act → World → Prop} (hgd : o.guard = none) (s x : Operand)
    (ho : o.op = .call { callee := .builtin .append, args := #[s, x], argTypes := #[26, 26] }) (base : Nat) (v : Value) (n m : Nat) (l l2 : List Nat) (hs : a.eval s = v) (hown : w.ownsRow base 5 1 v n (bytesV l))
    (B : Option Addr) (c : Nat) (hx : a.eval x = .slice B m c) (hr : BRow w B m c l2) (hlen : n + m ≤ 100000) (hbase : base ≤ w.heap.size)
    (h : ∀ v' w', w'.ownsRow base 5 1 v' (n + m) (bytesV (l ++ l2)) → w.grownBy w' v.ownBlock → wpList Tryd.prog ops Q rest (a.put o.dst v') w') : wpList Tryd.prog ops Q (o :: rest) a w := by
  obtain ⟨i0', hi, hz0, hz1, hz2⟩ := info_parts Tryd.info5
  have hm := hr.len
  cases B with
  | none =>
    have hc := hr.nil rfl
    subst hc
    obtain rfl : m = 0 := by have := hr.le; omega
    obtain rfl : l2 = [] := List.length_eq_zero_iff.1 hm
    refine wpList_append_own_none hgd s x 26 ho base 5 i0' 1 Tryd.underlying26 hi v n (bytesV l) hs hown hx ?_
    refine h v w ?_ ⟨rfl, rfl, rfl, Nat.le_refl _, fun _ _ _ => rfl⟩
    rw [List.append_nil]
    exact hown
  | some ad =>
    refine wpList_append_own w hgd s x 26 ho base 5 i0' (.int .u8 0) 1 1 Tryd.underlying26 hi hz0 hz1 hz2 rfl (by decide) v n (bytesV l) hs hown ad m c (bytesV l2) hx (by rw [bytesV_length, hm]; omega) ?_ (bytesV_one _) (by unfold maxLen; omega) (by omega) hbase ?_
    · intro j u hj
      have hl : j < l2.length := by
        rcases Nat.lt_or_ge j l2.length with e | e
        · exact e
        · rw [List.getElem?_eq_none (by rw [bytesV_length]; exact e)] at hj; cases hj
      obtain ⟨ad', e, hc⟩ := hr.bytes.2 (by omega)
      injection e with e
      subst e
      rw [bytesV_get _ _ hl] at hj
      injection hj with hj
      rw [← hj]
      exact hc j hl
    · intro v' w' h1 h2 _
      exact h v' w' (by rw [bytesV_append]; exact h1) h2

theorem addr_zero (a : Addr) : a.add 0 = a := by
  obtain ⟨b, o, s⟩ := a
  cases s <;> simp [Addr.add]
theorem size29 (w : World) : (Go.sizeOf (Tryd.prog.elem 26)).run Tryd.prog w = .ok 1 w := by kernel_rfl
theorem sliceB_hi {A : Option Addr} {n cap k : Nat} (h : k ≤ cap) (w : World) : (Instr.slice 26 (.slice A n cap) none (some (.int .i64 (k : Int))) none).run Tryd.prog w = .ok (.slice A k cap) w := by
  rw [run_slice_h w 26 A n cap Tryd.underlying26 .i64 (k : Int) (by omega) (by omega), size29]
  simp only [Result.andThen, sliced]
  congr 2
  · cases A with
    | none => simp
    | some a =>
      split
      · rfl
      · simp [addr_zero]
theorem sliceB_lo {A : Option Addr} {n cap k : Nat} {l : List Nat} {w : World} (hr : BRow w A n cap l) (h : k ≤ n) :
    ∃ A2, (∀ w, (Instr.slice 26 (.slice A n cap) (some (.int .i64 (k : Int))) none none).run Tryd.prog w = .ok (.slice A2 (n - k) (cap - k)) w) ∧ BRow w A2 (n - k) (cap - k) (l.drop k) := by
  have hc := hr.le
  refine ⟨if cap = k then A else A.map (·.add (k * 1)), fun w => ?_, ⟨⟨fun s hs => hr.bytes.1 s (List.mem_of_mem_drop hs), fun hp => ?_⟩, ?_, ?_, ?_, fun e => ?_⟩⟩
  · rw [run_slice_l w 26 A n cap Tryd.underlying26 .i64 (k : Int) (by omega) (by omega), size29]
    simp [Result.andThen, sliced]
  · rw [List.length_drop, hr.len] at hp
    obtain ⟨b, off, rfl, hcell⟩ := hr.bytes.at_ (by have := hr.len; omega)
    rw [if_neg (by omega)]
    refine ⟨⟨b, off + k * 1, none⟩, by rw [Option.map_some, addr_add], fun j hj => ?_⟩
    rw [List.length_drop, hr.len] at hj
    rw [addr_add, show off + k * 1 + j = off + (k + j) by omega, hcell (k + j) (by have := hr.len; omega)]
    congr 3
    simp [List.getD_eq_getElem?_getD]
  · rw [List.length_drop, hr.len]
  · omega
  · have := hr.max; omega
  · split at e
    · have := hr.nil e; omega
    · have := hr.nil (by cases A with
        | none => rfl
        | some a => simp at e)
      omega

theorem strB_eq {a b : List Nat} (ha : ∀ c ∈ a, c < 256) (hb : ∀ c ∈ b, c < 256) : ((strB a).toList == (strB b).toList) = decide (a = b) := by
  rw [Bool.eq_iff_iff, beq_iff_eq, decide_eq_true_eq]
  rw [Lib.toList_data, Lib.toList_data]
  exact ⟨fun e => strB_inj ha hb (ByteArray.ext (Array.toList_inj.1 e)), fun h => by rw [h]⟩
set_option maxHeartbeats 1000000 in
theorem equalB_any {A B : Option Addr} {n m ca cb : Nat} {a b : List Nat} {w : World} (h1 : BRow w A n ca a) (h2 : BRow w B m cb b) :
    Calls Tryd.prog 42 #[.slice A n ca, .slice B m cb] w fun e w' => e = .returned (.bool (decide (a = b))) ∧ w = w' := by
  have c1 := conv_bytes h1.bytes n ca h1.len
  have c2 := conv_bytes h2.bytes m cb h2.len
  have e := strB_eq h1.bytes.1 h2.bytes.1
  obtain ⟨R, hR⟩ : ∃ R, R = decide (a = b) := ⟨_, rfl⟩
  rw [← hR] at e ⊢
  have E := Lib.hid e
  clear h1 h2 e hR
  generalize strB a = S at *
  generalize strB b = T at *
  go_enter Tryd.func42, Tryd.ntmps42
  go_wp2
  go_ret
  exact ⟨by rw [← E.out]; rfl, rfl⟩


theorem numsB_cons (n : Nat) (r : List Nat) : numsB (n :: r) = enc n ++ numsB r := rfl
theorem numsB_app (a b : List Nat) : numsB (a ++ b) = numsB a ++ numsB b := by simp [numsB]
theorem numsB_len : ∀ (l : List Nat), (∀ n ∈ l, n < 18446744073709551616) → (numsB l).length ≤ 10 * l.length
  | [], _ => by simp [numsB]
  | n :: r, h => by
    have h1 := enc_len_le (h n (by simp))
    have h2 := numsB_len r (fun m hm => h m (by simp [hm]))
    rw [numsB_cons, List.length_append, List.length_cons]
    omega
theorem grown_of {w w' : World} (h : Below w.heap.size w w') (row : Option Nat) : w.grownBy w' row := ⟨h.os, h.tape, h.output, h.size, fun k hk _ => h.block k hk⟩
/-- A row of bytes of the call's own, made from block base on. -/
def ownB (w : World) (base g cap : Nat) (d : List Nat) : Prop := w.ownsRow base 5 1 (.slice (some ⟨g, 0, none⟩) d.length cap) d.length (bytesV d)
def AddPost (base g : Nat) (d ns : List Nat) (w : World) (e : Ending) (w' : World) : Prop :=
  ∃ g' cap', e = .returned (.slice (some ⟨g', 0, none⟩) (d ++ numsB ns).length cap') ∧ ownB w' base g' cap' (d ++ numsB ns) ∧ w.grownBy w' (some g) ∧ (g' = g ∨ w.heap.size ≤ g')
theorem numsB_take {ns : List Nat} {k : Nat} (h : k < ns.length) : numsB (ns.take (k + 1)) = numsB (ns.take k) ++ enc (ns.getD k 0) := by
  rw [List.take_succ_eq_append_getElem h, numsB_app]
  simp [numsB, h]
structure AddInv (base g : Nat) (d ns : List Nat) (w wr : World) (k g' cap' L : Nat) : Prop where
  len : L = (d ++ numsB (ns.take k)).length
  own : ownB wr base g' cap' (d ++ numsB (ns.take k))
  grown : w.grownBy wr (some g)
  at_ : g' = g ∨ w.heap.size ≤ g'

set_option maxRecDepth 100000 in
set_option maxHeartbeats 1000000 in
theorem add_any (base g cap : Nat) (d : List Nat) (h c : Nat) (ns : List Nat) (w : World) (ho : ownB w base g cap d) (hn : ∀ n ∈ ns, n < 18446744073709551616)
    (hcell : ∀ j, j < ns.length → w.cell? ⟨h, j, none⟩ = some (.int .u64 ((ns.getD j 0 : Nat) : Int))) (hne : h ≠ g) (h0 : 0 < ns.length) (h8 : ns.length ≤ 8) (hd : d.length ≤ 5000) (hb : base ≤ w.heap.size) (hc : ns.length ≤ c) :
    Calls Tryd.prog 39 #[.slice (some ⟨g, 0, none⟩) d.length cap, .slice (some ⟨h, 0, none⟩) ns.length c] w (AddPost base g d ns w) := by
  obtain ⟨i0, hi0, hz0, hz1, hz2⟩ := info_parts Tryd.info5
  have HN := Lib.hid hn
  obtain ⟨m, hm⟩ : ∃ m, ns.length = m := ⟨_, rfl⟩
  rw [hm] at h0 h8 hc hcell ⊢
  have HCELL := Lib.hid hcell
  have HM := Lib.hid hm
  have HLT : Hid (h < w.heap.size) := Lib.hid (World.block_lt_of_cell? w _ (hcell 0 h0))
  have HBL : Hid (∀ k, (numsB (ns.take k)).length ≤ 80) := Lib.hid (fun k => by
    have := numsB_len (ns.take k) (fun n hn2 => hn n (List.mem_of_mem_take hn2))
    have h2 : (ns.take k).length ≤ ns.length := by rw [List.length_take]; omega
    omega)
  have HST : Hid (AddInv base g d ns w w 0 g cap d.length) := Lib.hid ⟨by simp [numsB], by simpa [numsB] using ho, ⟨rfl, rfl, rfl, Nat.le_refl _, fun _ _ _ => rfl⟩, .inl rfl⟩
  have m64 : (m : Int) ≤ 8 := by omega
  clear hn hcell hm ho
  obtain ⟨L0, hL0⟩ : ∃ L0, d.length = L0 := ⟨_, rfl⟩
  rw [hL0] at HST hd ⊢
  have HL0 := Lib.hid hL0
  clear hL0
  go_enter Tryd.func39, Tryd.ntmps39
  go_wp2
  go_loopw [0, 9] (fun s0 s9 wr => ∃ (k g' cap' L : Nat), k ≤ m ∧ s9 = .int .i64 (k : Int) ∧ s0 = .slice (some ⟨g', 0, none⟩) L cap' ∧ Hid (AddInv base g d ns w wr k g' cap' L)) (fun _ s9 _ => m - (intOf s9).toNat)
  case atStart => exact ⟨0, g, cap, L0, by omega, rfl, rfl, HST⟩
  case round =>
    clear HST
    obtain ⟨k, g', cap', L, hk, rfl, rfl, HI⟩ := hrel
    by_cases hlt : k < m
    · have i1 : (k : Int) < (m : Int) := by omega
      have i2 : (0 : Int) ≤ (k : Int) := by omega
      have hl80 := HBL.out k
      have hLe : L ≤ 5080 := by
        have e := HI.out.len
        have e2 := HL0.out
        rw [List.length_append] at e
        omega
      have hcl : wr.cell? ⟨h, k, none⟩ = some (.int .u64 ((ns.getD k 0 : Nat) : Int)) := by
        rw [HI.out.grown.cell_far ⟨h, k, none⟩ HLT.out (fun e => by injection e with e; exact hne e)]
        exact HCELL.out k hlt
      have hN : ns.getD k 0 < 18446744073709551616 := HN.out _ (getD_mem (by rw [HM.out]; exact hlt))
      have HNX : Hid (∀ wa g2 cap2, ownB wa base g2 cap2 ((d ++ numsB (ns.take k)) ++ enc (ns.getD k 0)) → w.grownBy wa (some g) → (g2 = g ∨ w.heap.size ≤ g2) → AddInv base g d ns w wa (k + 1) g2 cap2 (L + (enc (ns.getD k 0)).length)) := Lib.hid (fun wa g2 cap2 h1 h2 h3 => by
        have e := numsB_take (ns := ns) (k := k) (by rw [HM.out]; exact hlt)
        refine ⟨?_, ?_, h2, h3⟩
        · rw [e, HI.out.len]
          simp only [List.length_append]
          omega
        · rw [e, ← List.append_assoc]
          exact h1)
      have MP := Lib.hid (fun w => put_any (ns.getD k 0) w hN)
      have hel := enc_len_le hN
      have hen := enc_ne (ns.getD k 0)
      generalize ns.getD k 0 = N at *
      have HD := Lib.hid HI.out.len
      have HOWN := Lib.hid HI.out.own
      have HGR := Lib.hid HI.out.grown
      have HAT := Lib.hid HI.out.at_
      generalize d ++ numsB (ns.take k) = D at *
      obtain ⟨E, hE⟩ : ∃ E, (enc N).length = E := ⟨_, rfl⟩
      rw [hE] at hel hen HNX
      clear hN hl80 HI
      go_wp2_with fail
      refine (MP.out _).mono ?_
      rintro e w1 ⟨gp, capp, rfl, hown1, hb1⟩
      rw [hE] at hown1 ⊢
      have HB1 := Lib.hid hb1
      have hsrc := (Bytes.own hown1 (enc_byte N)).1
      have HSRC : Hid (∀ j u, (bytesV (enc N))[j]? = some u → w1.cell? ((⟨gp, 0, none⟩ : Addr).add j) = some u) := Lib.hid (fun j u hj => by
        have hj2 : j < (enc N).length := by
          have := (List.getElem?_eq_some_iff.1 hj).1
          rwa [bytesV_length] at this
        rw [bytesV_get _ _ hj2] at hj
        injection hj with hj
        obtain ⟨ad, e, hcc⟩ := hsrc.2 (by omega)
        injection e with e
        subst e
        rw [← hj]
        exact hcc j hj2)
      have HO1 : Hid (w1.ownsRow base 5 1 (.slice (some ⟨g', 0, none⟩) L cap') L (bytesV D)) := Lib.hid (by
        have := HOWN.out
        unfold ownB at this
        rw [← HD.out] at this
        exact this.kept (row := none) (grown_of hb1 none) (Or.inr (by simp [Value.ownBlock])))
      have hsz : base ≤ w1.heap.size := Nat.le_trans hb (Nat.le_trans HGR.out.size hb1.size)
      have HLEN : Hid ((bytesV (enc N)).length = E * 1) := Lib.hid (by rw [bytesV_length, hE]; omega)
      clear hb1 hown1 hsrc hcl
      go_wp2_with (at_builtin; refine wpList_append_lies _ rfl _ _ 26 rfl base 5 i0 (.int .u8 0) 1 1 Tryd.underlying26 hi0 hz0 hz1 hz2 rfl (by decide) (.slice (some ⟨g', 0, none⟩) L cap') L (bytesV D) rfl HO1.out ⟨gp, 0, none⟩ E capp (bytesV (enc N)) rfl HLEN.out HSRC.out (bytesV_one _) hen ?c3 ?c4 hsz w1.heap.size rfl ?_)
      case c3 => unfold maxLen; omega
      case c4 => omega
      intro g2 cap2 wa hown2 hgrow hat hlt2
      have HN2 : Hid (AddInv base g d ns w wa (k + 1) g2 cap2 (L + E)) := Lib.hid (by
        have hg1 : w.grownBy w1 (some g) := HGR.out.trans (grown_of HB1.out _)
        refine HNX.out wa g2 cap2 ?_ ?_ ?_
        · unfold ownB
          rw [bytesV_append, List.length_append, hE, ← HD.out]
          exact hown2
        · refine grown_then hg1 hgrow (fun j e => ?_)
          simp only [Value.ownBlock, Option.some.injEq] at e
          subst e
          rcases HAT.out with e | e
          · exact .inr (by rw [e])
          · exact .inl e
        · rcases hat with e | e
          · simp only [Value.ownBlock, Option.some.injEq] at e
            subst e
            exact HAT.out
          · exact .inr (by rw [e]; exact hg1.size))
      clear hown2 hgrow hat hlt2
      go_wp2
      go_roundw
      case rel => exact ⟨k + 1, g2, cap2, L + E, by omega, by go_num, rfl, HN2⟩
      case measure => simp [intOf]; omega
    · obtain rfl : k = m := by omega
      have HF : Hid (AddPost base g d ns w (.returned (.slice (some ⟨g', 0, none⟩) L cap')) wr) := Lib.hid (by
        have e : ns.take k = ns := List.take_of_length_le (Nat.le_of_eq HM.out)
        have h1 := HI.out.len
        have h2 := HI.out.own
        rw [e] at h1 h2
        exact ⟨g', cap', by rw [h1], h2, HI.out.grown, HI.out.at_⟩)
      go_wp2
      go_ret
      exact HF.out
end Go.Proofs.YtdpoahjgdndnhaaDoor
