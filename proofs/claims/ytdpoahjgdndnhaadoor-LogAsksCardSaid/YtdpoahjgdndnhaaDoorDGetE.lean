/-
  The document's own reader of numbers: what it returns, where it stands behind it; nothing else is written.
  What the document's reader finds in an entry's bytes; a byte, a text, a bound of its own.
  The document's small, C.Byte, C.Text: what each returns, what it writes.
  The document's PutEntry: an entry's bytes as a text, of every entry; nothing that was there is written.
  The document's GetEntry: the entry whose bytes these are, of any bytes; nothing that was there is written.
-/
import Derived.Test.YtdpoahjgdndnhaaDoorEReadW
import Derived.Test.YtdpoahjgdndnhaaDoorVRefGet
import Derived.Test.YtdpoahjgdndnhaaDoorEGetE
import Derived.BigQuiet
import Derived.Deep.DeepCutAuto
import Derived.Test.YtdpoahjgdndnhaaDoorDMayE
import Derived.Test.YtdpoahjgdndnhaaDoorEByte
import Derived.Test.YtdpoahjgdndnhaaDoorEPut
import Derived.Test.YtdpoahjgdndnhaaDoorVRef
import Derived.BigRegion
import Derived.Deep.RegionHeld3
import Derived.Test.YtdpoahjgdndnhaaDoorCalm
import Derived.Deep.RegionLaw
namespace Go.Proofs.YtdpoahjgdndnhaaDoor
open Go.RowKit
set_option linter.unusedVariables false

theorem quiet_same {P : Program} {f : FuncId} {args : Array Value} {w : World} {n : Nat} {v : Value} (h : Calls P f args (w.drewN n) fun e w' => e = .returned v ∧ w.drewN n = w') : Calls P f args (w.drewN n) fun e w'' => e = .returned v ∧ ∃ m, w'' = w.drewN m :=
  h.mono fun _ _ ⟨he, hm⟩ => ⟨he, n, hm.symm⟩
/-- The string s has the bytes bs. -/
def StrIs (s : ByteArray) (bs : List Nat) : Prop := s.size = bs.length ∧ (∀ c ∈ bs, c < 256) ∧ s.size ≤ 1000 ∧ ∀ j (h : j < s.size), (s[j]'h).toNat = bs.getD j 0
/-- The reader at block g stands at p; bad: it has met an error. -/
structure CAt (w : World) (g : Nat) (s : ByteArray) (p : Nat) (bad : Bool) : Prop where
  c0 : w.cell? ⟨g, 0, none⟩ = some (.string s)
  c1 : w.cell? ⟨g, 1, none⟩ = some (.int .i64 (p : Int))
  c2 : w.cell? ⟨g, 2, none⟩ = some (.bool bad)
  f1 : w.frozen? ⟨g, 1, none⟩ = false
  f2 : w.frozen? ⟨g, 2, none⟩ = false
theorem CAt.lt {w : World} {g : Nat} {s : ByteArray} {p : Nat} {bad : Bool} (h : CAt w g s p bad) : g < w.heap.size := World.block_lt_of_cell? w _ h.c0
theorem CAt.below {w w' : World} {g : Nat} {s : ByteArray} {p : Nat} {bad : Bool} (h : CAt w g s p bad) (hb : Below w.heap.size w w') : CAt w' g s p bad :=
  ⟨by rw [hb.cell h.lt]; exact h.c0, by rw [hb.cell h.lt]; exact h.c1, by rw [hb.cell h.lt]; exact h.c2, by rw [hb.frozen h.lt]; exact h.f1, by rw [hb.frozen h.lt]; exact h.f2⟩
/-- A number read at p: it, where the next one stands, whether there was none. -/
def numR (bs : List Nat) (p : Nat) : Bool → Nat × Nat × Bool
  | true => (0, p, true)
  | false => match dec 0 0 (bs.drop p) with
    | some (v, k) => (v, p + k, false)
    | none => (0, p, true)
theorem numR_le {bs : List Nat} {p : Nat} {bad : Bool} (hb : ∀ c ∈ bs, c < 256) (hp : p ≤ bs.length) : (numR bs p bad).2.1 ≤ bs.length ∧ (numR bs p bad).1 < 18446744073709551616 := by
  cases bad with
  | true => exact ⟨hp, by show 0 < 18446744073709551616; decide⟩
  | false =>
    unfold numR
    simp only
    split
    · next v k hd =>
      obtain ⟨n, e, h1, h2, h3, _⟩ := dec_only _ 0 0 v k (fun c hc => hb c (List.mem_of_mem_drop hc)) (by decide) hd
      simp only [Nat.pow_zero, Nat.mul_one, Nat.zero_add] at e h1
      rw [List.length_drop] at h3
      subst e
      exact ⟨by simp only; omega, h1⟩
    · exact ⟨hp, by show 0 < 18446744073709551616; decide⟩
theorem c_set {w : World} {g : Nat} {s : ByteArray} {p : Nat} {bad : Bool} (h : CAt w g s p bad) (p' : Nat) (bad' : Bool) : CAt ((w.setCell ⟨g, 1, none⟩ (.int .i64 (p' : Int))).setCell ⟨g, 2, none⟩ (.bool bad')) g s p' bad' := by
  obtain ⟨c0, c1, c2, f1, f2⟩ := h
  constructor <;> simp [go_sem, *]
theorem g_set (w : World) (g : Nat) (a b : Value) : w.grownBy ((w.setCell ⟨g, 1, none⟩ a).setCell ⟨g, 2, none⟩ b) (some g) :=
  ⟨rfl, rfl, rfl, by simp [World.setCell], fun k _ hk => by
    have hne : k ≠ g := fun e => hk (by rw [e])
    rw [Below.heap_setCell _ _ _ _ (fun e => hne e), Below.heap_setCell _ _ _ _ (fun e => hne e)]⟩
def NumPost (bs : List Nat) (g : Nat) (s : ByteArray) (p : Nat) (bad : Bool) (w : World) (e : Ending) (w' : World) : Prop :=
  e = .returned (.int .u64 ((numR bs p bad).1 : Int)) ∧ CAt w' g s (numR bs p bad).2.1 (numR bs p bad).2.2 ∧ w.grownBy w' (some g) ∧ ∀ ad, w'.frozen? ad = w.frozen? ad

set_option maxRecDepth 100000 in
theorem num_bad (bs : List Nat) (g : Nat) (s : ByteArray) (p : Nat) (w : World) (h : CAt w g s p true) :
    Calls Tryd.prog 45 #[.pointer (some ⟨g, 0, none⟩)] w (NumPost bs g s p true w) := by
  have c2 := h.c2
  have H := Lib.hid h
  clear h
  go_enter Tryd.func45, Tryd.ntmps45
  go_wp2
  go_ret
  exact ⟨rfl, H.out, ⟨rfl, rfl, rfl, Nat.le_refl _, fun _ _ _ => rfl⟩, fun _ => rfl⟩

set_option maxRecDepth 100000 in
set_option maxHeartbeats 1000000 in
theorem num_good (bs : List Nat) (g : Nat) (s : ByteArray) (p : Nat) (w : World) (h : CAt w g s p false) (hs : StrIs s bs) (hp : p ≤ bs.length) :
    Calls Tryd.prog 45 #[.pointer (some ⟨g, 0, none⟩)] w (NumPost bs g s p false w) := by
  obtain ⟨c0, c1, c2, f1, f2⟩ := h
  have m1 := fun w => refget_nat s bs p w hs.1 hs.2.1 hs.2.2.1 (by rw [hs.1]; exact hp) hs.2.2.2
  cases hd : dec 0 0 (bs.drop p) with
  | none =>
    rw [hd] at m1
    unfold getE at m1
    have M1 := Lib.hid m1
    have HN : Hid (numR bs p false = (0, p, true)) := Lib.hid (by unfold numR; simp only; rw [hd])
    have HA := Lib.hid (c_set (CAt.mk c0 c1 c2 f1 f2) p true)
    have HG := Lib.hid (g_set w g (.int .i64 (p : Int)) (.bool true))
    clear m1 hd hs hp
    go_enter Tryd.func45, Tryd.ntmps45
    go_upto_region 3 with fail
    go_quiet ((exact quiet_same (M1.out _)))
    go_wp2
    go_ret
    exact ⟨by rw [HN.out]; rfl, by rw [HN.out]; exact ⟨HA.out.c0, HA.out.c1, HA.out.c2, HA.out.f1, HA.out.f2⟩, ⟨HG.out.os, HG.out.tape, HG.out.output, HG.out.size, HG.out.block⟩, fun ad => by rw [World.frozen?_setCell, World.frozen?_setCell]; rfl⟩
  | some y =>
    obtain ⟨v, k⟩ := y
    rw [hd] at m1
    unfold getE at m1
    simp only at m1
    have HN : Hid (numR bs p false = (v, p + k, false)) := Lib.hid (by unfold numR; simp only; rw [hd])
    have HA := Lib.hid (c_set (CAt.mk c0 c1 c2 f1 f2) (p + k) false)
    have HG := Lib.hid (g_set w g (.int .i64 ((p + k : Nat) : Int)) (.bool false))
    generalize hq : p + k = q at *
    have M1 := Lib.hid m1
    clear m1 hd hs hp hq
    go_enter Tryd.func45, Tryd.ntmps45
    go_upto_region 3 with fail
    go_quiet ((exact quiet_same (M1.out _)))
    go_wp2
    go_ret
    exact ⟨by rw [HN.out]; rfl, by rw [HN.out]; exact ⟨HA.out.c0, HA.out.c1, HA.out.c2, HA.out.f1, HA.out.f2⟩, ⟨HG.out.os, HG.out.tape, HG.out.output, HG.out.size, HG.out.block⟩, fun ad => by rw [World.frozen?_setCell, World.frozen?_setCell]; rfl⟩
theorem num_any (bs : List Nat) (g : Nat) (s : ByteArray) (p : Nat) (bad : Bool) (w : World) (h : CAt w g s p bad) (hs : StrIs s bs) (hp : p ≤ bs.length) :
    Calls Tryd.prog 45 #[.pointer (some ⟨g, 0, none⟩)] w (NumPost bs g s p bad w) := by
  cases bad with
  | true => exact num_bad bs g s p w h
  | false => exact num_good bs g s p w h hs hp
end Go.Proofs.YtdpoahjgdndnhaaDoor
set_option maxRecDepth 100000
namespace Go.Proofs.YtdpoahjgdndnhaaDoor
open Go.RowKit
attribute [local go_sem ↓] Go.wp_at_zero Go.wp_at_succ
set_option linter.unusedVariables false

def byteR (bs : List Nat) : Nat × Nat × Bool :=
  match bs with
  | [] => (0, 0, true)
  | c :: _ => (c, 1, false)
def textR (bs : List Nat) (p : Nat) (bad : Bool) (n : Nat) : List Nat × Nat × Bool := if bad = false ∧ n ≤ bs.length - p then ((bs.drop p).take n, p + n, false) else ([], p, true)
def smal (n most : Nat) : Int := if n > most then (most : Int) + 1 else (n : Int)
/-- What the document reads: an entry, and whether something was missing. -/
def readD (bs : List Nat) : Ent × Bool :=
  let k := byteR bs
  let v := numR bs k.2.1 k.2.2
  if k.1 = 1 then
    let a := numR bs v.2.1 v.2.2
    let b := numR bs a.2.1 a.2.2
    let d := numR bs b.2.1 b.2.2
    let e := numR bs d.2.1 d.2.2
    let s := numR bs e.2.1 e.2.2
    (⟨1, smal v.1 1073741824, smal a.1 1073741824, smal b.1 4, smal d.1 1099511627776, smal e.1 1099511627776, ((s.1 % 4294967296 : Nat) : Int), []⟩, s.2.2)
  else if k.1 = 2 then
    let a := numR bs v.2.1 v.2.2
    (⟨2, smal v.1 1073741824, smal a.1 1073741824, 0, 0, 0, 0, []⟩, a.2.2)
  else if k.1 = 4 then
    let n := numR bs v.2.1 v.2.2
    let t := textR bs n.2.1 n.2.2 n.1
    (⟨4, smal v.1 1073741824, 0, 0, 0, 0, 0, bytesU t.1⟩, t.2.2)
  else (⟨(k.1 : Int), smal v.1 1073741824, 0, 0, 0, 0, 0, []⟩, v.2.2)
def getD2 (bs : List Nat) : Ent × Int := if (readD bs).2 = false ∧ (readD bs).1.put = (bs, 0) then ((readD bs).1, 0) else (Ent.zero, 2)

theorem numR_nums {bs l r : List Nat} {p n : Nat} (h : bs.drop p = numsB (n :: l) ++ r) (hn : n < 18446744073709551616) : ∃ q, numR bs p false = (n, q, false) ∧ bs.drop q = numsB l ++ r := by
  have e : bs.drop p = enc n ++ (numsB l ++ r) := by rw [h]; simp [numsB]
  refine ⟨p + (enc n).length, ?_, ?_⟩
  · unfold numR
    simp only
    rw [e, dec_enc0 n _ hn]
  · rw [← List.drop_drop, e]
    simp
theorem smal_le {n most : Nat} (h : n ≤ most) : smal n most = (n : Int) := by unfold smal; rw [if_neg (by omega)]
theorem smal_in {n most : Nat} (hm : most ≤ 1099511627776) : 0 ≤ smal n most ∧ smal n most ≤ 1099511627777 := by unfold smal; split <;> omega
theorem readD_bytes {e : Ent} (h : e.may) (ho : e.ok) : readD e.bytes = (e, false) := by
  obtain ⟨hv, hown, hs⟩ := h
  obtain ⟨kd, vw, id, tr, fr, tl, sm, tx⟩ := e
  have hsm : 0 ≤ sm ∧ sm ≤ 4294967295 := ho.2.2.2.2.2.2.1
  simp only at hv
  unfold Ent.says at hs
  unfold Ent.own at hown
  simp only at hs hown
  by_cases k1 : kd = 1
  · subst k1
    rw [if_pos rfl] at hs hown
    simp only [idOk] at hs
    have htx : tx = [] := by injection hown
    subst htx
    have e1 : Ent.bytes ⟨1, vw, id, tr, fr, tl, sm, []⟩ = 1 :: (numsB [vw.toNat, id.toNat, tr.toNat, fr.toNat, tl.toNat, sm.toNat] ++ []) := by
      unfold Ent.bytes Ent.nums textB; simp
    rw [e1]
    obtain ⟨q1, n1, d1⟩ := numR_nums (bs := 1 :: (numsB [vw.toNat, id.toNat, tr.toNat, fr.toNat, tl.toNat, sm.toNat] ++ [])) (p := 1) rfl (by omega)
    obtain ⟨q2, n2, d2⟩ := numR_nums d1 (by omega)
    obtain ⟨q3, n3, d3⟩ := numR_nums d2 (by omega)
    obtain ⟨q4, n4, d4⟩ := numR_nums d3 (by omega)
    obtain ⟨q5, n5, d5⟩ := numR_nums d4 (by omega)
    obtain ⟨q6, n6, d6⟩ := numR_nums d5 (by omega)
    unfold readD byteR
    simp only
    rw [n1]
    simp only
    rw [n2]
    simp only
    rw [n3]
    simp only
    rw [n4]
    simp only
    rw [n5]
    simp only
    rw [n6]
    simp only [if_true]
    rw [smal_le (by omega), smal_le (by omega), smal_le (by omega), smal_le (by omega), smal_le (by omega)]
    have hm : ((sm.toNat % 4294967296 : Nat) : Int) = sm := by omega
    rw [hm]
    congr 2 <;> omega
  · rw [if_neg k1] at hs hown
    by_cases k2 : kd = 2
    · subst k2
      rw [if_pos rfl] at hs hown
      simp only [idOk] at hs
      injection hown with _ _ _ h4 h5 h6 h7 h8
      subst h4 h5 h6 h7 h8
      have e1 : Ent.bytes ⟨2, vw, id, 0, 0, 0, 0, []⟩ = 2 :: (numsB [vw.toNat, id.toNat] ++ []) := by
        unfold Ent.bytes Ent.nums textB; simp
      rw [e1]
      obtain ⟨q1, n1, d1⟩ := numR_nums (bs := 2 :: (numsB [vw.toNat, id.toNat] ++ [])) (p := 1) rfl (by omega)
      obtain ⟨q2, n2, d2⟩ := numR_nums d1 (by omega)
      unfold readD byteR
      simp only
      rw [n1]
      simp only
      rw [n2]
      simp only [if_true]
      rw [if_neg (by decide), smal_le (by omega), smal_le (by omega)]
      congr 2 <;> omega
    · rw [if_neg k2] at hs hown
      by_cases k3 : kd = 3
      · subst k3
        rw [if_neg (by decide)] at hown
        injection hown with _ _ h3 h4 h5 h6 h7 h8
        subst h3 h4 h5 h6 h7 h8
        have e1 : Ent.bytes ⟨3, vw, 0, 0, 0, 0, 0, []⟩ = 3 :: (numsB [vw.toNat] ++ []) := by
          unfold Ent.bytes Ent.nums textB; simp
        rw [e1]
        obtain ⟨q1, n1, d1⟩ := numR_nums (bs := 3 :: (numsB [vw.toNat] ++ [])) (p := 1) rfl (by omega)
        unfold readD byteR
        simp only
        rw [n1]
        simp only
        rw [if_neg (by decide), if_neg (by decide), if_neg (by decide), smal_le (by omega)]
        congr 2
        omega
      · rw [if_neg k3] at hs
        by_cases k4 : kd = 4
        · subst k4
          rw [if_pos rfl] at hs hown
          injection hown with _ _ h3 h4 h5 h6 h7 _
          subst h3 h4 h5 h6 h7
          have hl : tx.length ≤ 300 := hs.1
          have e1 : Ent.bytes ⟨4, vw, 0, 0, 0, 0, 0, tx⟩ = 4 :: (numsB [vw.toNat, tx.length] ++ textB tx) := by
            unfold Ent.bytes Ent.nums; simp
          rw [e1]
          obtain ⟨q1, n1, d1⟩ := numR_nums (bs := 4 :: (numsB [vw.toNat, tx.length] ++ textB tx)) (p := 1) rfl (by omega)
          obtain ⟨q2, n2, d2⟩ := numR_nums d1 (by omega)
          have d3 : (4 :: (numsB [vw.toNat, tx.length] ++ textB tx)).drop q2 = textB tx := d2
          have ht : textR (4 :: (numsB [vw.toNat, tx.length] ++ textB tx)) q2 false tx.length = (textB tx, q2 + tx.length, false) := by
            have e4 : (textB tx).length = tx.length := by simp [textB]
            have e5 : ((4 :: (numsB [vw.toNat, tx.length] ++ textB tx)).drop q2).length = tx.length := by rw [d3, e4]
            rw [List.length_drop] at e5
            unfold textR
            rw [if_pos ⟨rfl, by omega⟩, d3, List.take_of_length_le (by omega)]
          unfold readD byteR
          simp only
          rw [n1]
          simp only
          rw [n2]
          simp only
          rw [ht, if_neg (by decide), if_neg (by decide), if_pos trivial, smal_le (by omega), bytesU_text]
          congr 2
          omega
        · rw [if_neg k4] at hs
          exact hs.elim
theorem readD_ok {bs : List Nat} (hb : ∀ c ∈ bs, c < 256) (hl : bs.length ≤ 1000) : (readD bs).1.ok ∧ (readD bs).1.tx.length ≤ 1000 := by
  have h0 : In64 0 := by unfold In64; omega
  have hs : ∀ n most, most ≤ 1099511627776 → In64 (smal n most) := fun n most hm => by
    have := smal_in (n := n) hm
    unfold In64
    omega
  have i1 : In64 1 := by unfold In64; omega
  have i2 : In64 2 := by unfold In64; omega
  have i4 : In64 4 := by unfold In64; omega
  have hk : (byteR bs).1 < 256 := by
    unfold byteR
    cases bs with
    | nil => simp
    | cons c r => exact hb c (by simp)
  have ik : In64 ((byteR bs).1 : Int) := by unfold In64; omega
  have ht : ∀ p b n, (bytesU (textR bs p b n).1).length ≤ 1000 := fun p b n => by
    unfold textR bytesU
    split
    · simp only [List.length_map, List.length_take, List.length_drop]; omega
    · simp
  unfold readD Ent.ok
  simp only
  split
  · exact ⟨⟨i1, hs _ _ (by omega), hs _ _ (by omega), hs _ _ (by omega), hs _ _ (by omega), hs _ _ (by omega), by dsimp only; omega, by simp⟩, by simp⟩
  · split
    · exact ⟨⟨i2, hs _ _ (by omega), hs _ _ (by omega), h0, h0, h0, by dsimp only; omega, by simp⟩, by simp⟩
    · split
      · exact ⟨⟨i4, hs _ _ (by omega), h0, h0, h0, h0, by dsimp only; omega, Nat.lt_of_le_of_lt (ht _ _ _) (by omega)⟩, ht _ _ _⟩
      · exact ⟨⟨ik, hs _ _ (by omega), h0, h0, h0, h0, by dsimp only; omega, by simp⟩, by simp⟩
/-- The document finds what the program finds. -/
theorem getD_is {bs : List Nat} (hb : ∀ c ∈ bs, c < 256) (hl : bs.length ≤ 1000) : getD2 bs = getE2 bs := by
  by_cases h : (getE2 bs).2 = 0
  · obtain ⟨hm, he⟩ := get_only h
    have hok : (getE2 bs).1.ok := by
      unfold getE2 at h ⊢
      split
      · exact readE_ok hb (by omega)
      · next h1 => rw [if_neg h1] at h; simp at h
    have hr := readD_bytes hm hok
    rw [he] at hr
    have hp : (getE2 bs).1.put = (bs, 0) := by unfold Ent.put; rw [if_pos hm, he]
    unfold getD2
    rw [hr, if_pos ⟨rfl, hp⟩]
    exact Prod.ext rfl h.symm
  · rw [get_not h]
    unfold getD2
    refine if_neg (fun hc => h ?_)
    obtain ⟨hm, he⟩ := put_ok_iff.1 hc.2
    have := get_bytes hm (readD_ok hb hl).1
    rw [he] at this
    rw [this]
end Go.Proofs.YtdpoahjgdndnhaaDoor
set_option maxRecDepth 100000
namespace Go.Proofs.YtdpoahjgdndnhaaDoor
open Go.RowKit
attribute [local go_sem ↓] Go.wp_at_zero Go.wp_at_succ
set_option linter.unusedVariables false

theorem small_any (n most : Nat) (w : World) (hn : n < 18446744073709551616) (hm : most ≤ 1099511627776) :
    Calls Tryd.prog 44 #[.int .u64 (n : Int), .int .u64 (most : Int)] w fun e w' => e = .returned (.int .i64 (smal n most)) ∧ w = w' := by
  obtain ⟨R, hR⟩ : ∃ R, R = smal n most := ⟨_, rfl⟩
  rw [← hR]
  unfold smal at hR
  by_cases h : n > most
  · rw [if_pos h] at hR
    have k1 : (n : Int) > (most : Int) := by omega
    have i1 : IntKind.i64.wrap (most : Int) = (most : Int) := by rw [IntKind.wrap_i64]; omega
    have i2 : IntKind.i64.wrap ((most : Int) + 1) = (most : Int) + 1 := by rw [IntKind.wrap_i64]; omega
    have HR := Lib.hid hR
    clear hR
    go_enter Tryd.func44, Tryd.ntmps44
    go_wp2
    go_ret
    exact ⟨by rw [HR.out]; rfl, rfl⟩
  · rw [if_neg h] at hR
    have k1 : ¬ (n : Int) > (most : Int) := by omega
    have i1 : IntKind.i64.wrap (n : Int) = (n : Int) := by rw [IntKind.wrap_i64]; omega
    have HR := Lib.hid hR
    clear hR
    go_enter Tryd.func44, Tryd.ntmps44
    go_wp2
    go_ret
    exact ⟨by rw [HR.out]; rfl, rfl⟩

theorem strB_is {bs : List Nat} (hb : ∀ c ∈ bs, c < 256) (hl : bs.length ≤ 1000) : StrIs (strB bs) bs :=
  ⟨strB_size bs, hb, by rw [strB_size]; exact hl, fun j hj => strB_get bs hb j hj⟩
theorem c_set1 {w : World} {g : Nat} {s : ByteArray} {p : Nat} {bad : Bool} (h : CAt w g s p bad) (p' : Nat) : CAt (w.setCell ⟨g, 1, none⟩ (.int .i64 (p' : Int))) g s p' bad := by
  obtain ⟨c0, c1, c2, f1, f2⟩ := h
  constructor <;> simp [go_sem, *]
theorem c_set2 {w : World} {g : Nat} {s : ByteArray} {p : Nat} {bad : Bool} (h : CAt w g s p bad) (bad' : Bool) : CAt (w.setCell ⟨g, 2, none⟩ (.bool bad')) g s p bad' := by
  obtain ⟨c0, c1, c2, f1, f2⟩ := h
  constructor <;> simp [go_sem, *]
theorem g_set1 (w : World) (g k : Nat) (a : Value) : w.grownBy (w.setCell ⟨g, k, none⟩ a) (some g) :=
  ⟨rfl, rfl, rfl, by simp [World.setCell], fun j _ hj => by
    have hne : j ≠ g := fun e => hj (by rw [e])
    rw [Below.heap_setCell _ _ _ _ (fun e => hne e)]⟩
/-- Behind a call of the reader. -/
structure CPost (g : Nat) (s : ByteArray) (p : Nat) (bad : Bool) (w w' : World) : Prop where
  at_ : CAt w' g s p bad
  gr : w.grownBy w' (some g)
  fz : ∀ ad, w'.frozen? ad = w.frozen? ad
theorem CAt.drew {w : World} {g : Nat} {s : ByteArray} {p : Nat} {bad : Bool} (h : CAt w g s p bad) (n : Nat) : CAt (w.drewN n) g s p bad := ⟨h.c0, h.c1, h.c2, h.f1, h.f2⟩
theorem CPost.drew {g : Nat} {s : ByteArray} {p : Nat} {bad : Bool} {w w' : World} (h : CPost g s p bad w w') (n : Nat) : CPost g s p bad w (w'.drewN n) :=
  ⟨h.at_.drew n, ⟨h.gr.os, h.gr.tape, h.gr.output, h.gr.size, h.gr.block⟩, fun ad => h.fz ad⟩
theorem CPost.from {g : Nat} {s : ByteArray} {p : Nat} {bad : Bool} {w w' : World} {n : Nat} (h : CPost g s p bad (w.drewN n) w') : CPost g s p bad w w' :=
  ⟨h.at_, ⟨h.gr.os, h.gr.tape, h.gr.output, h.gr.size, h.gr.block⟩, fun ad => h.fz ad⟩
theorem CPost.set1 {w : World} {g : Nat} {s : ByteArray} {p : Nat} {bad : Bool} (h : CAt w g s p bad) (p' : Nat) : CPost g s p' bad w (w.setCell ⟨g, 1, none⟩ (.int .i64 (p' : Int))) := ⟨c_set1 h p', g_set1 w g 1 _, fun ad => World.frozen?_setCell _ _ _ _⟩
theorem CPost.set2 {w : World} {g : Nat} {s : ByteArray} {p : Nat} {bad : Bool} (h : CAt w g s p bad) (bad' : Bool) : CPost g s p bad' w (w.setCell ⟨g, 2, none⟩ (.bool bad')) := ⟨c_set2 h bad', g_set1 w g 2 _, fun ad => World.frozen?_setCell _ _ _ _⟩
set_option maxHeartbeats 2000000 in
theorem byte_any (bs : List Nat) (g : Nat) (w : World) (h : CAt w g (strB bs) 0 false) (hb : ∀ c ∈ bs, c < 256) (hl : bs.length ≤ 1000) :
    Calls Tryd.prog 43 #[.pointer (some ⟨g, 0, none⟩)] w fun e w' => e = .returned (.int .u8 ((byteR bs).1 : Int)) ∧ CPost g (strB bs) (byteR bs).2.1 (byteR bs).2.2 w w' := by
  have hsz := strB_size bs
  have hget := strB_get bs hb
  have hm2 := fun n => (CPost.set2 (h.drew n) true).from
  have hm1 := fun n => (CPost.set1 (h.drew n) 1).from
  obtain ⟨c0, c1, c2, f1, f2⟩ := h
  cases bs with
  | nil =>
    have HM := Lib.hid hm2
    clear hm1 hm2 hget
    generalize strB [] = S at *
    have hs0 : S.size = 0 := hsz
    have d1 : decide ((0 : Int) ≥ (S.size : Int)) = true := decide_eq_true (by omega)
    clear hsz
    go_enter Tryd.func43, Tryd.ntmps43
    go_upto_region 1 with fail
    go_quiet (fail)
    go_wp2
    go_ret
    exact ⟨rfl, HM.out nq⟩
  | cons c r =>
    have HM := Lib.hid hm1
    have hg0 := hget 0 (by rw [hsz]; simp)
    clear hm1 hm2 hget
    generalize strB (c :: r) = S at *
    have hs0 : S.size = r.length + 1 := hsz
    have d1 : decide ((0 : Int) ≥ (S.size : Int)) = false := decide_eq_false (by omega)
    have hc : (c :: r).getD 0 0 = c := rfl
    rw [hc] at hg0
    go_enter Tryd.func43, Tryd.ntmps43
    go_upto_region 1 with fail
    go_quiet (fail)
    clear d1
    go_upto_region 5 with fail
    have HC : Hid (CPost g S 1 false w ((w.drewN nq).setCell ⟨g, 1, none⟩ (.int .i64 1))) := Lib.hid (HM.out nq)
    generalize (w.drewN nq).setCell ⟨g, 1, none⟩ (.int .i64 1) = W5 at *
    clear c0 c1 c2 f1 f2 HM
    have c0 := HC.out.at_.c0
    have c1 : W5.cell? ⟨g, 1, none⟩ = some (.int .i64 1) := HC.out.at_.c1
    go_quiet (fail)
    go_wp2
    go_ret
    exact ⟨rfl, HC.out.drew _⟩
/-- A part of a text. -/
theorem strB_part (b : List Nat) (lo hi : Nat) : (strB b).extract lo hi = strB ((b.drop lo).take (hi - lo)) := by
  refine ByteArray.ext (Array.toList_inj.1 ?_)
  rw [ByteArray.data_extract, Array.toList_extract]
  unfold strB strOfNums
  simp [List.map_take, List.map_drop, List.extract]
theorem slice_part (b : List Nat) (lo hi : Nat) (h1 : lo ≤ hi) (h2 : hi ≤ b.length) (hl : b.length ≤ 10000) (w : World) : (Instr.slice 9 (.string (strB b)) (some (.int .i64 (lo : Int))) (some (.int .i64 (hi : Int))) none).run Tryd.prog w = .ok (.string (strB ((b.drop lo).take (hi - lo)))) w := by
  rw [← strB_part]
  have h := strB_size b
  generalize strB b = S at *
  have h3 : S.size ≤ 10000 := by omega
  have h4 : (hi : Int) ≤ (S.size : Int) := by omega
  have h5 : (lo : Int) ≤ (hi : Int) := by omega
  clear h
  go_simp
theorem strB_bytesU (b : List Nat) : strB b = ⟨(bytesU b).toArray⟩ := by
  unfold strB strOfNums bytesU
  rw [List.map_map]
  congr 2
set_option maxHeartbeats 2000000 in
theorem text_dany (bs : List Nat) (g p n : Nat) (bad : Bool) (w : World) (h : CAt w g (strB bs) p bad) (hp : p ≤ bs.length) (hn : n < 18446744073709551616) (hl : bs.length ≤ 1000) :
    Calls Tryd.prog 46 #[.pointer (some ⟨g, 0, none⟩), .int .u64 (n : Int)] w fun e w' => e = .returned (.string (strB (textR bs p bad n).1)) ∧ CPost g (strB bs) (textR bs p bad n).2.1 (textR bs p bad n).2.2 w w' := by
  have hsz := strB_size bs
  have hm2 := fun n => (CPost.set2 (h.drew n) true).from
  have hm1 := fun k => (CPost.set1 (h.drew k) (p + n)).from
  obtain ⟨c0, c1, c2, f1, f2⟩ := h
  obtain ⟨R, hR⟩ : ∃ R, R = textR bs p bad n := ⟨_, rfl⟩
  rw [← hR]
  unfold textR at hR
  cases bad with
  | true =>
    rw [if_neg (by simp)] at hR
    have HM := Lib.hid hm2
    have HR := Lib.hid hR
    clear hm1 hm2 hR
    generalize strB bs = S at *
    go_enter Tryd.func46, Tryd.ntmps46
    go_upto_region 1 with fail
    go_quiet (fail)
    go_wp2
    go_ret
    exact ⟨by rw [HR.out]; rfl, by rw [HR.out]; exact HM.out nq⟩
  | false =>
    have i1 : IntKind.i64.wrap (((strB bs).size : Int) - (p : Int)) = ((bs.length - p : Nat) : Int) := by rw [IntKind.wrap_i64, hsz]; omega
    have i2 : IntKind.u64.wrap ((bs.length - p : Nat) : Int) = ((bs.length - p : Nat) : Int) := by rw [IntKind.wrap_u64]; omega
    obtain ⟨q, hq⟩ : ∃ q, bs.length - p = q := ⟨_, rfl⟩
    rw [hq] at i1 i2 hR
    by_cases hlt : n ≤ q
    · rw [if_pos ⟨rfl, hlt⟩] at hR
      have HSL := Lib.hid (fun w => slice_part bs p (p + n) (by omega) (by omega) (by omega) w)
      have hsub : p + n - p = n := by omega
      rw [hsub] at HSL
      have HM := Lib.hid hm1
      have HR := Lib.hid hR
      have k1 : ¬ (n : Int) > (q : Int) := by omega
      have d1 : decide ((n : Int) > (q : Int)) = false := decide_eq_false k1
      have i3 : IntKind.i64.wrap (n : Int) = (n : Int) := by rw [IntKind.wrap_i64]; omega
      have i4 : IntKind.i64.wrap ((p : Int) + (n : Int)) = ((p + n : Nat) : Int) := by rw [IntKind.wrap_i64]; omega
      have i5 : IntKind.i64.wrap (((p + n : Nat) : Int) - (n : Int)) = (p : Int) := by rw [IntKind.wrap_i64]; omega
      clear hm1 hm2 hR hsz hsub hlt hq hn hl hp
      obtain ⟨T, hT⟩ : ∃ T, strB ((bs.drop p).take n) = T := ⟨_, rfl⟩
      rw [hT] at HSL
      have HT := Lib.hid hT
      clear hT
      generalize strB bs = S at *
      generalize p + n = pn at *
      go_enter Tryd.func46, Tryd.ntmps46
      go_upto_region 1 with fail
      go_quiet (fail)
      clear i1 i2 d1 k1
      go_upto_region 5 with fail
      have HC : Hid (CPost g S pn false w ((w.drewN nq).setCell ⟨g, 1, none⟩ (.int .i64 (pn : Int)))) := Lib.hid (HM.out nq)
      generalize (w.drewN nq).setCell ⟨g, 1, none⟩ (.int .i64 (pn : Int)) = W5 at *
      clear c0 c1 c2 f1 f2 HM i4
      have c0 := HC.out.at_.c0
      have c1 := HC.out.at_.c1
      have hsl := HSL.out
      go_quiet (fail)
      go_wp2
      go_ret
      exact ⟨by rw [HR.out]; simp only [HT.out]; rfl, by rw [HR.out]; exact HC.out.drew _⟩
    · rw [if_neg (fun h => hlt h.2)] at hR
      have HM := Lib.hid hm2
      have HR := Lib.hid hR
      have k1 : (n : Int) > (q : Int) := by omega
      have d1 : decide ((n : Int) > (q : Int)) = true := decide_eq_true k1
      clear hm1 hm2 hR hsz hlt hq hn hl hp
      generalize strB bs = S at *
      go_enter Tryd.func46, Tryd.ntmps46
      go_upto_region 1 with fail
      go_quiet (fail)
      go_wp2
      go_ret
      exact ⟨by rw [HR.out]; rfl, by rw [HR.out]; exact HM.out nq⟩
end Go.Proofs.YtdpoahjgdndnhaaDoor
set_option maxRecDepth 100000
namespace Go.Proofs.YtdpoahjgdndnhaaDoor
open Go.RowKit
attribute [local go_sem ↓] Go.wp_at_zero Go.wp_at_succ
set_option linter.unusedVariables false

theorem empty_str : ({ data := #[] } : ByteArray) = strB [] := rfl
theorem one_str (c : Nat) (h : c < 256) : ({ data := #[UInt8.ofNat c] } : ByteArray) = strB [c] := rfl
theorem text_strB (l : List UInt8) : ({ data := l.toArray } : ByteArray) = strB (textB l) := by
  unfold strB strOfNums textB
  rw [List.map_map, List.map_map]
  congr 2
  conv => lhs; rw [← List.map_id l]
  apply List.map_congr_left
  intro a _
  simp
theorem conv_one (u u' : World) (c : Nat) (hc : c < 256) (hu : Below (u.alloc (.cells #[.int .u8 (c : Int)] 5)).heap.size (u.alloc (.cells #[.int .u8 (c : Int)] 5)) u') :
    (convert 26 9 (.slice (some ⟨u.heap.size, 0, none⟩) 1 1)).run Tryd.prog u' = .ok (.string (strB [c])) u' := by
  refine conv_bytes ⟨fun d hd => by rw [List.mem_singleton] at hd; omega, fun _ => ⟨⟨u.heap.size, 0, none⟩, rfl, fun j hj => ?_⟩⟩ 1 1 rfl
  obtain rfl : j = 0 := by simpa using hj
  rw [addr_zero, hu.cell (by simp)]
  simp
def DPutPost (w : World) (R : List Nat × Int) (en : Ending) (w' : World) : Prop := en = .returned (.tuple #[.string (strB R.1), .int .i64 R.2]) ∧ Below w.heap.size w w'
set_option maxHeartbeats 8000000 in
theorem dput_may (kd : Nat) (V : Nat) (id tr fr tl sm : Int) (tx : List UInt8) (w : World) (he : Ent.ok ⟨kd, V, id, tr, fr, tl, sm, tx⟩) (h : Ent.may ⟨kd, V, id, tr, fr, tl, sm, tx⟩) (hk : 1 ≤ kd ∧ kd ≤ 4) (ht : tx.length ≤ 1000000) :
    Calls Tryd.prog 15 #[Ent.val ⟨kd, V, id, tr, fr, tl, sm, tx⟩] w (DPutPost w (Ent.bytes ⟨kd, V, id, tr, fr, tl, sm, tx⟩, 0)) := by
  obtain ⟨B, hB⟩ : ∃ B, B = Ent.bytes ⟨kd, V, id, tr, fr, tl, sm, tx⟩ := ⟨_, rfl⟩
  rw [← hB]
  have HBY := Lib.hid hB
  clear hB
  have HEB := Lib.hid (EBox.new w ⟨kd, V, id, tr, fr, tl, sm, tx⟩)
  simp only at HEB
  obtain ⟨W1, hW1⟩ : ∃ W1, W1 = w.alloc (.cells #[.int .i64 (kd : Int), .int .i64 (V : Int), .int .i64 id, .int .i64 tr, .int .i64 fr, .int .i64 tl, .int .u32 sm, .string ⟨tx.toArray⟩] 25) := ⟨_, rfl⟩
  have hb1 : Below w.heap.size w W1 := by rw [hW1]; exact below_box _ _
  rw [← hW1] at HEB
  have HW1 := Lib.hid hW1
  have M1 := dmay_any ⟨kd, V, id, tr, fr, tl, sm, tx⟩ W1 ht
  rw [decide_eq_true h] at M1
  unfold MayPost Ent.val str at M1
  simp only at M1
  have hv : V ≤ 1073741824 := by have := h.1; simp only at this; omega
  have N1 := Lib.hid (fun u : World => refput_any V u (by omega))
  have zV : (strB (enc V)).size ≤ 10 := by rw [strB_size]; exact enc_len_le (by omega)
  have HB1 := Lib.hid hb1
  have HM := Lib.hid h
  have HOK := Lib.hid he
  have HM1 := Lib.hid M1
  clear hW1 hb1 M1 h he
  unfold Ent.val str
  simp only
  go_enter Tryd.func15, Tryd.ntmps15
  go_upto_region 1 with fail
  rw [← HW1.out]
  clear HW1
  obtain ⟨c0, c1, c2, c3, c4, c5, c6, c7⟩ := HEB.out
  simp only at c0 c1 c2 c3 c4 c5 c6 c7
  have d0 := c0 ⟨W1, Below.refl _ _⟩
  have d1 := c1 ⟨W1, Below.refl _ _⟩
  have d2 := c2 ⟨W1, Below.refl _ _⟩
  have d3 := c3 ⟨W1, Below.refl _ _⟩
  have d4 := c4 ⟨W1, Below.refl _ _⟩
  have d5 := c5 ⟨W1, Below.refl _ _⟩
  have d6 := c6 ⟨W1, Below.refl _ _⟩
  have d7 := c7 ⟨W1, Below.refl _ _⟩
  simp only [SubB.w] at d0 d1 d2 d3 d4 d5 d6 d7
  go_wp2_with fail
  refine HM1.out.mono ?_
  rintro en W2 ⟨rfl, hb2⟩
  clear d0 d1 d2 d3 d4 d5 d6 d7 HM1
  have HB2 := Lib.hid (past HB1.out hb2)
  have HB12 := Lib.hid hb2
  have e0 := c0 ⟨W2, hb2⟩
  have e1 := c1 ⟨W2, hb2⟩
  simp only [SubB.w] at e0 e1
  clear hb2 HB1
  have w8 : IntKind.u8.wrap (kd : Int) = (kd : Int) := wrap8 (by omega)
  have w64 : IntKind.u64.wrap (V : Int) = (V : Int) := wrap64u (by omega)
  clear c0 c1 c2 c3 c4 c5 c6 c7
  obtain ⟨E1, hE1⟩ : ∃ E, strB (enc V) = E := ⟨_, rfl⟩
  obtain ⟨E0, hE0⟩ : ∃ E, strB [kd] = E := ⟨_, rfl⟩
  have z0 : E0.size = 1 := by rw [← hE0, strB_size]; rfl
  have n1 : E0.size + E1.size ≤ 9223372036854775807 := by rw [hE1] at zV; omega
  have n1' : ¬ 9223372036854775807 < E0.size + E1.size := by omega
  have HS : Hid (E0 ++ E1 = strB (kd :: enc V)) := Lib.hid (by rw [← hE0, ← hE1, strB_app]; rfl)
  have cvW : ∀ u u' : World, Below (u.alloc (.cells #[.int .u8 (kd : Int)] 5)).heap.size (u.alloc (.cells #[.int .u8 (kd : Int)] 5)) u' → (convert 26 9 (.slice (some ⟨u.heap.size, 0, none⟩) 1 1)).run Tryd.prog u' = .ok (.string E0) u' := fun u u' hu => by
    rw [← hE0]
    refine conv_one u u' kd (by omega) hu
  have cv1 : ∀ u : World, (convert 26 9 (.slice (some ⟨u.heap.size, 0, none⟩) 1 1)).run Tryd.prog (u.alloc (.cells #[.int .u8 (kd : Int)] 5)).drew = .ok (.string E0) (u.alloc (.cells #[.int .u8 (kd : Int)] 5)).drew := fun u => cvW u _ (below_drewN _ 1)
  have cv2 : ∀ u : World, (convert 26 9 (.slice (some ⟨u.heap.size, 0, none⟩) 1 1)).run Tryd.prog (u.alloc (.cells #[.int .u8 (kd : Int)] 5)) = .ok (.string E0) (u.alloc (.cells #[.int .u8 (kd : Int)] 5)) := fun u => cvW u _ (Below.refl _ _)
  have CVX : Hid (∀ W3, Below (W2.alloc (.cells #[.int .u8 (kd : Int)] 5)).drew.heap.size (W2.alloc (.cells #[.int .u8 (kd : Int)] 5)).drew W3 → (convert 26 9 (.slice (some ⟨W2.heap.size, 0, none⟩) 1 1)).run Tryd.prog W3 = .ok (.string E0) W3) := Lib.hid (fun W3 hu => cvW W2 W3 (past (below_drewN _ 1) hu))
  rw [hE1] at N1
  clear hE0 hE1 zV z0 cvW
  go_upto_region 3 with fail
  go_cut [4] (fun s4 wx => s4 = .string (strB (kd :: enc V)) ∧ Hid (Below W2.heap.size W2 wx))
  case first =>
    have HSX : Hid (∀ u, Below W2.heap.size W2 u → u.cell? ⟨w.heap.size, 0, none⟩ = some (.int .i64 (kd : Int)) ∧ u.cell? ⟨w.heap.size, 1, none⟩ = some (.int .i64 (V : Int))) := Lib.hid (fun u hu => by
      have hl : w.heap.size < W2.heap.size := World.block_lt_of_cell? W2 _ e0
      exact ⟨by rw [hu.cell hl]; exact e0, by rw [hu.cell hl]; exact e1⟩)
    have hx1 : w.heap.size ≠ W2.heap.size := Nat.ne_of_lt (World.block_lt_of_cell? W2 _ e0)
    have eA := HSX.out _ (below_box W2 (.cells #[.int .u8 (kd : Int)] 5))
    obtain ⟨eA0, eA1⟩ := eA
    go_region_law (first
        | (go_simp; go_at_call 40; refine (N1.out _).mono ?_; rintro en W3 ⟨rfl, hb3⟩; have cvx := CVX.out W3 hb3; obtain ⟨s0, s1⟩ := HSX.out W3 (past (past (below_box W2 _) (below_drewN _ 1)) hb3))
        | (go_simp; go_at_call 40; refine (N1.out _).mono ?_; rintro en W3 ⟨rfl, hb3⟩; obtain ⟨s0, s1⟩ := HSX.out W3 (past (below_drewN W2 1) hb3); have hx3 : w.heap.size ≠ W3.heap.size := Nat.ne_of_lt (World.block_lt_of_cell? W3 _ s0)))
    all_goals
      go_wp2
      go_meet
      case rel =>
        refine ⟨by rw [HS.out], Lib.hid ?_⟩
        first
          | exact past (past (below_box W2 _) (below_drewN _ 1)) hb3
          | exact past (below_drewN W2 1) hb3
          | exact past (past (below_drewN W2 1) hb3) (below_box W3 _)
  case rest =>
    obtain ⟨rfl, HBC⟩ := hcut
    obtain ⟨WC, hWC⟩ : ∃ WC, WC = wc := ⟨_, rfl⟩
    rw [← hWC] at HBC ⊢
    clear hWC e0 e1 n1 n1' HS cv1 cv2 CVX w8 w64 N1
    have HBW : Hid (Below w.heap.size w WC) := Lib.hid (past HB2.out HBC.out)
    have HB1C : Hid (Below W1.heap.size W1 WC) := Lib.hid (past HB12.out HBC.out)
    have C0 : ∀ u : SubB WC, u.w.cell? ⟨w.heap.size, 0, none⟩ = some (.int .i64 (kd : Int)) := fun u => HEB.out.c0 ⟨u.w, past HB1C.out u.le⟩
    have C2 : ∀ u : SubB WC, u.w.cell? ⟨w.heap.size, 2, none⟩ = some (.int .i64 id) := fun u => HEB.out.c2 ⟨u.w, past HB1C.out u.le⟩
    have C3 : ∀ u : SubB WC, u.w.cell? ⟨w.heap.size, 3, none⟩ = some (.int .i64 tr) := fun u => HEB.out.c3 ⟨u.w, past HB1C.out u.le⟩
    have C4 : ∀ u : SubB WC, u.w.cell? ⟨w.heap.size, 4, none⟩ = some (.int .i64 fr) := fun u => HEB.out.c4 ⟨u.w, past HB1C.out u.le⟩
    have C5 : ∀ u : SubB WC, u.w.cell? ⟨w.heap.size, 5, none⟩ = some (.int .i64 tl) := fun u => HEB.out.c5 ⟨u.w, past HB1C.out u.le⟩
    have C6 : ∀ u : SubB WC, u.w.cell? ⟨w.heap.size, 6, none⟩ = some (.int .u32 sm) := fun u => HEB.out.c6 ⟨u.w, past HB1C.out u.le⟩
    have C7 : ∀ u : SubB WC, u.w.cell? ⟨w.heap.size, 7, none⟩ = some (.string ⟨tx.toArray⟩) := fun u => HEB.out.c7 ⟨u.w, past HB1C.out u.le⟩
    have d0 := C0 ⟨WC, Below.refl _ _⟩
    have d2 := C2 ⟨WC, Below.refl _ _⟩
    simp only [SubB.w] at d0 d2
    obtain ⟨S, hS⟩ : ∃ S, S = strB (kd :: enc V) := ⟨_, rfl⟩
    have zS : S.size ≤ 11 := by rw [hS, strB_size]; have := enc_len_le (n := V) (by omega); simp; omega
    rw [← hS]
    obtain ⟨⟨_, _⟩, hown, hsays⟩ := HM.out
    unfold Ent.says at hsays
    unfold Ent.own at hown
    simp only at hown hsays
    have hB := HBY.out
    unfold Ent.bytes Ent.nums at hB
    simp only at hB
    by_cases k1 : kd = 1
    · subst k1
      rw [if_pos (show ((1 : Nat) : Int) = 1 from rfl)] at hsays hown hB
      rw [if_neg (show ¬ ((1 : Nat) : Int) = 4 by decide)] at hB
      have hsm : 0 ≤ sm ∧ sm ≤ 4294967295 := HOK.out.2.2.2.2.2.2.1
      obtain ⟨⟨i1, i2⟩, ⟨t1, t2⟩, f1, f2, u2⟩ := hsays
      obtain ⟨I, rfl⟩ : ∃ I : Nat, id = (I : Int) := ⟨id.toNat, by omega⟩
      obtain ⟨T, rfl⟩ : ∃ I : Nat, tr = (I : Int) := ⟨tr.toNat, by omega⟩
      obtain ⟨F, rfl⟩ : ∃ I : Nat, fr = (I : Int) := ⟨fr.toNat, by omega⟩
      obtain ⟨U, rfl⟩ : ∃ I : Nat, tl = (I : Int) := ⟨tl.toNat, by omega⟩
      obtain ⟨M, rfl⟩ : ∃ I : Nat, sm = (I : Int) := ⟨sm.toNat, by omega⟩
      have v1 : IntKind.u64.wrap (I : Int) = (I : Int) := wrap64u (by omega)
      have v2 : IntKind.u64.wrap (T : Int) = (T : Int) := wrap64u (by omega)
      have v3 : IntKind.u64.wrap (F : Int) = (F : Int) := wrap64u (by omega)
      have v4 : IntKind.u64.wrap (U : Int) = (U : Int) := wrap64u (by omega)
      have v5 : IntKind.u64.wrap (M : Int) = (M : Int) := wrap64u (by omega)
      have M1 := Lib.hid (fun u : World => refput_any I u (by omega))
      have M2 := Lib.hid (fun u : World => refput_any T u (by omega))
      have M3 := Lib.hid (fun u : World => refput_any F u (by omega))
      have M4 := Lib.hid (fun u : World => refput_any U u (by omega))
      have M5 := Lib.hid (fun u : World => refput_any M u (by omega))
      have z1 := enc_len_le (n := I) (by omega)
      have z2 := enc_len_le (n := T) (by omega)
      have z3 := enc_len_le (n := F) (by omega)
      have z4 := enc_len_le (n := U) (by omega)
      have z5 := enc_len_le (n := M) (by omega)
      have HF : Hid (S ++ strB (enc I) ++ strB (enc T) ++ strB (enc F) ++ strB (enc U) ++ strB (enc M) = strB B) := Lib.hid (by
        rw [hS, hB, strB_app, strB_app, strB_app, strB_app, strB_app]
        simp [numsB, textB])
      rw [← strB_size] at z1 z2 z3 z4 z5
      generalize strB (enc I) = E1 at *
      generalize strB (enc T) = E2 at *
      generalize strB (enc F) = E3 at *
      generalize strB (enc U) = E4 at *
      generalize strB (enc M) = E5 at *
      have n1 : S.size + E1.size ≤ 9223372036854775807 := by omega
      have n2 : S.size + E1.size + E2.size ≤ 9223372036854775807 := by omega
      have n3 : S.size + E1.size + E2.size + E3.size ≤ 9223372036854775807 := by omega
      have n4 : S.size + E1.size + E2.size + E3.size + E4.size ≤ 9223372036854775807 := by omega
      have n5 : S.size + E1.size + E2.size + E3.size + E4.size + E5.size ≤ 9223372036854775807 := by omega
      clear hown hB hS z1 z2 z3 z4 z5 zS i1 i2 t1 t2 f1 f2 u2 hsm C0 C7 d2
      go_upto_region 6 with fail
      refine wp_region_calm (by kernel_rfl) (by kernel_rfl) ?_
      (try simp only [List.append])
      repeat (go_big_quiet_step ((first | (go_at_call_of 40 (Value.int .u64 (I : Int)); exact calm_call (M1.out _)) | (go_at_call_of 40 (Value.int .u64 (T : Int)); exact calm_call (M2.out _)) | (go_at_call_of 40 (Value.int .u64 (F : Int)); exact calm_call (M3.out _)) | (go_at_call_of 40 (Value.int .u64 (U : Int)); exact calm_call (M4.out _)) | (go_at_call_of 40 (Value.int .u64 (M : Int)); exact calm_call (M5.out _)))))
      refine wpQuiet_nil ?_
      rintro _ ⟨u, rfl⟩
      have HEND := Lib.hid (past HBW.out u.le)
      rw [HF.out]
      clear C2 C3 C4 C5 C6
      go_wp2
      (try rw [Exit.noGoto_ret])
      go_ret2
      exact ⟨rfl, HEND.out⟩
    by_cases k2 : kd = 2
    · subst k2
      rw [if_neg (show ¬ ((2 : Nat) : Int) = 1 by decide), if_pos (show ((2 : Nat) : Int) = 2 from rfl)] at hsays hown hB
      rw [if_neg (show ¬ ((2 : Nat) : Int) = 4 by decide)] at hB
      obtain ⟨i1, i2⟩ := hsays
      obtain ⟨I, rfl⟩ : ∃ I : Nat, id = (I : Int) := ⟨id.toNat, by omega⟩
      have v1 : IntKind.u64.wrap (I : Int) = (I : Int) := wrap64u (by omega)
      have M1 := Lib.hid (fun u : World => refput_any I u (by omega))
      have z1 := enc_len_le (n := I) (by omega)
      have HF : Hid (S ++ strB (enc I) = strB B) := Lib.hid (by
        rw [hS, hB, strB_app]
        simp [numsB, textB])
      rw [← strB_size] at z1
      generalize strB (enc I) = E1 at *
      have n1 : ¬ 9223372036854775807 < S.size + E1.size := by omega
      clear hown hB hS z1 zS i1 i2 C0 C2 C3 C4 C5 C6 C7
      go_wp2_with fail
      refine (M1.out _).mono ?_
      rintro en W5 ⟨rfl, hb5⟩
      have HEND := Lib.hid (past HBW.out hb5)
      go_upto_region 9 with fail
      rw [HF.out]
      clear d0 d2 hb5
      go_wp2
      (try rw [Exit.noGoto_ret])
      go_ret2
      exact ⟨rfl, HEND.out⟩
    by_cases k3 : kd = 3
    · subst k3
      have hB3 : B = 3 :: enc V := by
        rw [hB, if_neg (by decide), if_neg (by decide), if_neg (by decide), if_neg (by decide)]
        simp [numsB, textB]
      have HF : Hid (S = strB B) := Lib.hid (by rw [hS, hB3])
      clear hown hsays hB hB3 hS k1 k2 C0 C2 C3 C4 C5 C6 C7 d2
      go_wp2
      (try rw [Exit.noGoto_ret])
      go_ret2
      exact ⟨by rw [← HF.out]; rfl, HBW.out⟩
    obtain rfl : kd = 4 := by omega
    rw [if_neg (show ¬ ((4 : Nat) : Int) = 1 by decide), if_neg (show ¬ ((4 : Nat) : Int) = 2 by decide), if_pos (show ((4 : Nat) : Int) = 4 from rfl), if_pos (show ((4 : Nat) : Int) = 4 from rfl)] at hB
    obtain ⟨tn, htn⟩ : ∃ tn, tx.length = tn := ⟨_, rfl⟩
    have hl : tn ≤ 1000000 := by rw [← htn]; exact ht
    have v1 : IntKind.u64.wrap (tn : Int) = (tn : Int) := wrap64u (by omega)
    have M1 := Lib.hid (fun u : World => refput_any tn u (by omega))
    have z1 : (strB (enc tn)).size ≤ 10 := by rw [strB_size]; exact enc_len_le (by omega)
    have HF : Hid (S ++ strB (enc tn) ++ ⟨tx.toArray⟩ = strB B) := Lib.hid (by
      rw [hS, hB, strB_app, text_strB, strB_app, ← htn]
      simp [numsB])
    have hsz : (⟨tx.toArray⟩ : ByteArray).size = tn := by rw [← htn]; simp [ByteArray.size]
    clear hB htn ht
    generalize strB (enc tn) = E1 at *
    generalize (⟨tx.toArray⟩ : ByteArray) = E2 at *
    have n1 : S.size + E1.size ≤ 9223372036854775807 := by omega
    have n2 : S.size + E1.size + E2.size ≤ 9223372036854775807 := by omega
    clear hown hsays hS z1 zS C0 C2 C3 C4 C5 C6 d2
    go_upto_region 10 with fail
    refine wp_region_calm (by kernel_rfl) (by kernel_rfl) ?_
    (try simp only [List.append])
    repeat (go_big_quiet_step ((first | (go_at_call_of 40 (Value.int .u64 (tn : Int)); exact calm_call (M1.out _)))))
    refine wpQuiet_nil ?_
    rintro _ ⟨u, rfl⟩
    have HEND := Lib.hid (past HBW.out u.le)
    rw [HF.out]
    clear C7
    go_wp2
    (try rw [Exit.noGoto_ret])
    go_ret2
    exact ⟨rfl, HEND.out⟩
theorem dput_any (e : Ent) (w : World) (he : e.ok) (ht : e.tx.length ≤ 1000000) : Calls Tryd.prog 15 #[e.val] w (DPutPost w e.put) := by
  by_cases hm : e.may
  · have hp : e.put = (e.bytes, 0) := by unfold Ent.put; rw [if_pos hm]
    rw [hp]
    obtain ⟨kd, vw, id, tr, fr, tl, sm, tx⟩ := e
    obtain ⟨hv, hown, hs⟩ := hm
    have hk : 1 ≤ kd ∧ kd ≤ 4 := by
      unfold Ent.says at hs
      simp only at hs
      split at hs
      · omega
      · split at hs
        · omega
        · split at hs
          · omega
          · split at hs
            · omega
            · exact hs.elim
    simp only at hv
    obtain ⟨V, rfl⟩ : ∃ V : Nat, vw = (V : Int) := ⟨vw.toNat, by omega⟩
    obtain ⟨K, rfl⟩ : ∃ V : Nat, kd = (V : Int) := ⟨kd.toNat, by omega⟩
    exact dput_may K V id tr fr tl sm tx w he ⟨hv, hown, hs⟩ (by omega) ht
  · have hp : e.put = ([], 1) := by unfold Ent.put; rw [if_neg hm]
    rw [hp]
    have M1 := Lib.hid (fun u => dmay_any e u ht)
    rw [decide_eq_false hm] at M1
    have HB1 := Lib.hid (below_box w (.cells #[.int .i64 e.kd, .int .i64 e.vw, .int .i64 e.id, .int .i64 e.tr, .int .i64 e.fr, .int .i64 e.tl, .int .u32 e.sm, .string ⟨e.tx.toArray⟩] 25))
    unfold MayPost Ent.val str at M1
    unfold Ent.val str
    obtain ⟨kd, vw, id, tr, fr, tl, sm, tx⟩ := e
    simp only at *
    clear hm hp he ht
    generalize (⟨tx.toArray⟩ : ByteArray) = S at *
    go_enter Tryd.func15, Tryd.ntmps15
    go_wp2_with fail
    refine (M1.out _).mono ?_
    rintro en W3 ⟨rfl, hb3⟩
    have HB3 := Lib.hid (past HB1.out hb3)
    clear hb3 M1 HB1
    go_wp2
    (try rw [Exit.noGoto_ret])
    go_ret2
    exact ⟨rfl, HB3.out⟩
end Go.Proofs.YtdpoahjgdndnhaaDoor
set_option maxRecDepth 100000
namespace Go.Proofs.YtdpoahjgdndnhaaDoor
open Go.RowKit
attribute [local go_sem ↓] Go.wp_at_zero Go.wp_at_succ
set_option linter.unusedVariables false

theorem EV.set1 {w : World} {g : Nat} {e : Ent} (h : EV w g e) (v : Int) : EV (w.setCell ⟨g, 1, none⟩ (.int .i64 v)) g { e with vw := v } := by
  have hf := h.fz
  obtain ⟨c0, c1, c2, c3, c4, c5, c6, c7, _⟩ := h
  exact ⟨by simp [go_sem, *], by simp [go_sem, *], by simp [go_sem, *], by simp [go_sem, *], by simp [go_sem, *], by simp [go_sem, *], by simp [go_sem, *], by simp [go_sem, *], fun i hi => by simpa using hf i hi⟩
theorem CAt.far {w : World} {g : Nat} {s : ByteArray} {p : Nat} {bad : Bool} (h : CAt w g s p bad) {a : Addr} (ha : a.block ≠ g) (v : Value) : CAt (w.setCell a v) g s p bad := by
  have f : ∀ i, (w.setCell a v).cell? ⟨g, i, none⟩ = w.cell? ⟨g, i, none⟩ := fun i => World.cell?_setCell_far w a ⟨g, i, none⟩ v ha
  exact ⟨by rw [f]; exact h.c0, by rw [f]; exact h.c1, by rw [f]; exact h.c2, by rw [World.frozen?_setCell]; exact h.f1, by rw [World.frozen?_setCell]; exact h.f2⟩
/-- Amid GetEntry: the reader, the entry, the result. -/
structure GR (w u : World) (gc ge : Nat) (bs : List Nat) (p : Nat) (bad : Bool) (E : Ent) : Prop where
  rd : CAt u gc (strB bs) p bad
  pl : p ≤ bs.length
  ev : EV u ge E
  z : EV u w.heap.size Ent.zero
  below : Below w.heap.size w u
  n1 : gc ≠ ge
  n2 : w.heap.size < gc
  n3 : w.heap.size < ge
section
variable {w u u' : World} {gc ge p p' : Nat} {bs : List Nat} {bad bad' : Bool} {E E' : Ent}
theorem GR.post (h : GR w u gc ge bs p bad E) (hc : CPost gc (strB bs) p' bad' u u') (hp : p' ≤ bs.length) : GR w u' gc ge bs p' bad' E :=
  ⟨hc.at_, hp, h.ev.grown hc.gr hc.fz (fun e => h.n1 (Option.some.inj e).symm), h.z.grown hc.gr hc.fz (fun e => by have := Option.some.inj e; have := h.n2; omega), h.below.grown hc.gr h.below.size (fun k e => by cases e; exact Nat.le_of_lt h.n2), h.n1, h.n2, h.n3⟩
theorem GR.on (h : GR w u gc ge bs p bad E) (hb : Below u.heap.size u u') : GR w u' gc ge bs p bad E :=
  ⟨h.rd.below hb, h.pl, h.ev.below hb, h.z.below hb, past h.below hb, h.n1, h.n2, h.n3⟩
theorem GR.call (h : GR w u gc ge bs p bad E) (hb : ∀ c ∈ bs, c < 256) (hl : bs.length ≤ 400) {v q : Nat} {b : Bool} (hv : numR bs p bad = (v, q, b)) : Calls Tryd.prog 45 #[.pointer (some ⟨gc, 0, none⟩)] u fun en u' => en = .returned (.int .u64 (v : Int)) ∧ GR w u' gc ge bs q b E := by
  have M := num_any bs gc (strB bs) p bad u h.rd (strB_is hb (by omega)) h.pl
  have hle := (numR_le (bad := bad) hb h.pl).1
  unfold NumPost at M
  rw [hv] at M hle
  exact M.mono fun en u' hp => ⟨hp.1, h.post ⟨hp.2.1, hp.2.2.1, hp.2.2.2⟩ hle⟩
theorem GR.calltext (h : GR w u gc ge bs p bad E) (hl : bs.length ≤ 400) {n q : Nat} {t : List Nat} {b : Bool} (hn : n < 18446744073709551616) (hv : textR bs p bad n = (t, q, b)) : Calls Tryd.prog 46 #[.pointer (some ⟨gc, 0, none⟩), .int .u64 (n : Int)] u fun en u' => en = .returned (str (bytesU t)) ∧ GR w u' gc ge bs q b E := by
  have M := text_dany bs gc p n bad u h.rd h.pl hn (by omega)
  have hle : q ≤ bs.length := by
    have hp := h.pl
    unfold textR at hv
    split at hv
    · next h1 => injection hv with _ hv; injection hv with hv _; omega
    · injection hv with _ hv; injection hv with hv _; omega
  rw [hv] at M
  simp only [strB_bytesU t] at M
  exact M.mono fun en u' hp => ⟨hp.1, h.post hp.2 hle⟩
theorem GR.set (h : GR w u gc ge bs p bad E) (k : Nat) (v : Value) (he : EV (u.setCell ⟨ge, k, none⟩ v) ge E') : GR w (u.setCell ⟨ge, k, none⟩ v) gc ge bs p bad E' :=
  ⟨h.rd.far (fun e => h.n1 e.symm) v, h.pl, he, h.z.far (fun e => by have := h.n3; simp only at e; omega) v, h.below.setCell (Nat.le_of_lt h.n3) v, h.n1, h.n2, h.n3⟩
end
theorem numR_lt {bs : List Nat} {p v q : Nat} {bad b : Bool} (hb : ∀ c ∈ bs, c < 256) (hp : p ≤ bs.length) (hv : numR bs p bad = (v, q, b)) : v < 18446744073709551616 := by
  have := (numR_le (bad := bad) hb hp).2
  rw [hv] at this
  exact this
theorem small_v (n : Nat) (w : World) (hn : n < 18446744073709551616) : Calls Tryd.prog 44 #[.int .u64 (n : Int), .int .u64 1073741824] w fun e w' => e = .returned (.int .i64 (smal n 1073741824)) ∧ w = w' := small_any n 1073741824 w hn (by omega)
theorem small_4 (n : Nat) (w : World) (hn : n < 18446744073709551616) : Calls Tryd.prog 44 #[.int .u64 (n : Int), .int .u64 4] w fun e w' => e = .returned (.int .i64 (smal n 4)) ∧ w = w' := small_any n 4 w hn (by omega)
theorem small_t (n : Nat) (w : World) (hn : n < 18446744073709551616) : Calls Tryd.prog 44 #[.int .u64 (n : Int), .int .u64 1099511627776] w fun e w' => e = .returned (.int .i64 (smal n 1099511627776)) ∧ w = w' := small_any n 1099511627776 w hn (by omega)
set_option maxHeartbeats 8000000 in
theorem dget_any (bs : List Nat) (w : World) (hb : ∀ c ∈ bs, c < 256) (hl : bs.length ≤ 400) : Calls Tryd.prog 17 #[.string (strB bs)] w (GetEPost w bs) := by
  obtain ⟨R, hR⟩ : ∃ R, R = getD2 bs := ⟨_, rfl⟩
  have hR2 : getE2 bs = R := by rw [hR, getD_is hb (by omega)]
  unfold GetEPost
  rw [hR2]
  have HR := Lib.hid hR
  clear hR hR2
  have HB := Lib.hid hb
  have HL := Lib.hid hl
  obtain ⟨W1, hW1⟩ : ∃ W1, W1 = (w.alloc (.cells #[.int .i64 0, .int .i64 0, .int .i64 0, .int .i64 0, .int .i64 0, .int .i64 0, .int .u32 0, .string ⟨#[]⟩] 25)).alloc (.cells #[.string (strB bs), .int .i64 0, .bool false] 72) := ⟨_, rfl⟩
  have HC1 : Hid (CAt W1 (w.heap.size + 1) (strB bs) 0 false) := Lib.hid (by rw [hW1]; constructor <;> simp)
  have HZ1 : Hid (EV W1 w.heap.size Ent.zero) := Lib.hid (by rw [hW1]; exact (EV.new w Ent.zero).below (below_box _ _))
  have HB1 : Hid (Below w.heap.size w W1) := Lib.hid (by rw [hW1]; exact past (below_box _ _) (below_box _ _))
  have HW1 := Lib.hid hW1
  obtain ⟨gc, hgc⟩ : ∃ gc, gc = w.heap.size + 1 := ⟨_, rfl⟩
  have HGC : Hid (w.heap.size < gc) := Lib.hid (by omega)
  have HGC2 := Lib.hid hgc
  rw [← hgc] at HC1
  have M1 := Lib.hid (byte_any bs gc W1 HC1.out hb (by omega))
  obtain ⟨⟨c, k1, k2⟩, hk⟩ : ∃ x, byteR bs = x := ⟨_, rfl⟩
  rw [hk] at M1
  simp only at M1
  have hc : c < 256 ∧ k1 ≤ bs.length := by
    unfold byteR at hk
    cases bs with
    | nil => simp only [Prod.mk.injEq] at hk; omega
    | cons d r =>
      simp only [Prod.mk.injEq] at hk
      have := hb d (by simp)
      simp only [List.length_cons]
      omega
  have HK := Lib.hid hk
  have HKL := Lib.hid hc.2
  clear hb hl hgc hW1 hk
  go_enter Tryd.func17, Tryd.ntmps17
  go_upto_region 2 with fail
  rw [← HW1.out, ← HGC2.out]
  go_wp2_with fail
  refine M1.out.mono ?_
  rintro en W2 ⟨rfl, hc2⟩
  have i1 : IntKind.i64.wrap (c : Int) = (c : Int) := by rw [IntKind.wrap_i64]; omega
  have HG3 : Hid (GR w (W2.alloc (.cells #[.int .i64 (c : Int), .int .i64 0, .int .i64 0, .int .i64 0, .int .i64 0, .int .i64 0, .int .u32 0, .string ⟨#[]⟩] 25)) gc W2.heap.size bs k1 k2 ⟨(c : Int), 0, 0, 0, 0, 0, 0, []⟩) := Lib.hid (by
    have hz := HZ1.out.grown hc2.gr hc2.fz (fun e => by have := Option.some.inj e; have := HGC.out; omega)
    have hbl := HB1.out.grown hc2.gr HB1.out.size (fun k e => by cases e; exact Nat.le_of_lt HGC.out)
    exact ⟨hc2.at_.below (below_box _ _), HKL.out, EV.new W2 ⟨(c : Int), 0, 0, 0, 0, 0, 0, []⟩, hz.below (below_box _ _), past hbl (below_box _ _), Nat.ne_of_lt hc2.at_.lt, HGC.out, Nat.lt_trans HGC.out hc2.at_.lt⟩)
  clear hc2 HZ1 HB1 HW1 HGC2 HC1 M1 HKL
  go_upto_region 3 with fail
  generalize W2.alloc (.cells #[.int .i64 (c : Int), .int .i64 0, .int .i64 0, .int .i64 0, .int .i64 0, .int .i64 0, .int .u32 0, .string ⟨#[]⟩] 25) = W3 at *
  generalize W2.heap.size = ge at *
  clear i1
  obtain ⟨⟨v1, p1, b1⟩, hv1⟩ : ∃ x, numR bs k1 k2 = x := ⟨_, rfl⟩
  have HV1 := Lib.hid hv1
  have HL1 := Lib.hid (numR_lt HB.out HG3.out.pl hv1)
  have M2 := Lib.hid (HG3.out.call HB.out HL.out hv1)
  clear hv1
  go_wp2_with fail
  refine M2.out.mono ?_
  rintro en W4 ⟨rfl, hg4⟩
  have M3 := Lib.hid (small_v v1 W4 HL1.out)
  obtain ⟨V, hV⟩ : ∃ V, smal v1 1073741824 = V := ⟨_, rfl⟩
  rw [hV] at M3
  have HVV := Lib.hid hV
  have HG4 := Lib.hid hg4
  have d1 := hg4.ev.c1
  have f1 := hg4.ev.fz 1 (by decide)
  clear hV hg4 M2 HG3
  go_wp2_with fail
  refine M3.out.mono ?_
  rintro en _ ⟨rfl, rfl⟩
  go_upto_region 4 with fail
  have HG5 : Hid (GR w (W4.setCell ⟨ge, 1, none⟩ (.int .i64 V)) gc ge bs p1 b1 ⟨(c : Int), V, 0, 0, 0, 0, 0, []⟩) := Lib.hid (HG4.out.set 1 _ (HG4.out.ev.set1 V))
  generalize W4.setCell ⟨ge, 1, none⟩ (.int .i64 V) = W5 at *
  clear d1 f1 M3 HG4
  have d0 := HG5.out.ev.c0
  simp only at d0
  by_cases q1 : c = 1
  case pos =>
    subst q1
    go_upto_region 6 with fail
    clear d0
    obtain ⟨⟨v2, p2, b2⟩, hv2⟩ : ∃ x, numR bs p1 b1 = x := ⟨_, rfl⟩
    have HV2 := Lib.hid hv2
    have HL2 := Lib.hid (numR_lt HB.out HG5.out.pl hv2)
    have M2 := Lib.hid (HG5.out.call HB.out HL.out hv2)
    clear hv2
    go_wp2_with fail
    refine M2.out.mono ?_
    rintro en W6 ⟨rfl, hg6⟩
    have HG6 := Lib.hid hg6
    clear hg6 M2
    have N2 := Lib.hid (small_v v2 W6 HL2.out)
    obtain ⟨ID, hID⟩ : ∃ V, smal v2 1073741824 = V := ⟨_, rfl⟩
    rw [hID] at N2
    have HID := Lib.hid hID
    clear hID
    go_wp2_with fail
    refine N2.out.mono ?_
    rintro en _ ⟨rfl, rfl⟩
    obtain ⟨⟨v3, p3, b3⟩, hv3⟩ : ∃ x, numR bs p2 b2 = x := ⟨_, rfl⟩
    have HV3 := Lib.hid hv3
    have HL3 := Lib.hid (numR_lt HB.out HG6.out.pl hv3)
    have M3 := Lib.hid (HG6.out.call HB.out HL.out hv3)
    clear hv3
    go_wp2_with fail
    refine M3.out.mono ?_
    rintro en W7 ⟨rfl, hg7⟩
    have HG7 := Lib.hid hg7
    clear hg7 M3
    have N3 := Lib.hid (small_4 v3 W7 HL3.out)
    obtain ⟨TR, hTR⟩ : ∃ V, smal v3 4 = V := ⟨_, rfl⟩
    rw [hTR] at N3
    have HTR := Lib.hid hTR
    clear hTR
    go_wp2_with fail
    refine N3.out.mono ?_
    rintro en _ ⟨rfl, rfl⟩
    have d2 := HG7.out.ev.c2
    have f2 := HG7.out.ev.fz 2 (by decide)
    have d3 := HG7.out.ev.c3
    have f3 := HG7.out.ev.fz 3 (by decide)
    go_upto_region 7 with fail
    have HG8 : Hid (GR w ((W7.setCell ⟨ge, 2, none⟩ (.int .i64 ID)).setCell ⟨ge, 3, none⟩ (.int .i64 TR)) gc ge bs p3 b3 ⟨1, V, ID, TR, 0, 0, 0, []⟩) := Lib.hid (by
      have hA := HG7.out
      have hA := hA.set 2 (.int .i64 ID) (hA.ev.set2 ID)
      have hA := hA.set 3 (.int .i64 TR) (hA.ev.set3 TR)
      exact hA)
    generalize (W7.setCell ⟨ge, 2, none⟩ (.int .i64 ID)).setCell ⟨ge, 3, none⟩ (.int .i64 TR) = W8 at *
    clear d2 f2 d3 f3
    obtain ⟨⟨v4, p4, b4⟩, hv4⟩ : ∃ x, numR bs p3 b3 = x := ⟨_, rfl⟩
    have HV4 := Lib.hid hv4
    have HL4 := Lib.hid (numR_lt HB.out HG8.out.pl hv4)
    have M4 := Lib.hid (HG8.out.call HB.out HL.out hv4)
    clear hv4
    go_wp2_with fail
    refine M4.out.mono ?_
    rintro en W9 ⟨rfl, hg9⟩
    have HG9 := Lib.hid hg9
    clear hg9 M4
    have N4 := Lib.hid (small_t v4 W9 HL4.out)
    obtain ⟨FR, hFR⟩ : ∃ V, smal v4 1099511627776 = V := ⟨_, rfl⟩
    rw [hFR] at N4
    have HFR := Lib.hid hFR
    clear hFR
    go_wp2_with fail
    refine N4.out.mono ?_
    rintro en _ ⟨rfl, rfl⟩
    obtain ⟨⟨v5, p5, b5⟩, hv5⟩ : ∃ x, numR bs p4 b4 = x := ⟨_, rfl⟩
    have HV5 := Lib.hid hv5
    have HL5 := Lib.hid (numR_lt HB.out HG9.out.pl hv5)
    have M5 := Lib.hid (HG9.out.call HB.out HL.out hv5)
    clear hv5
    go_wp2_with fail
    refine M5.out.mono ?_
    rintro en W10 ⟨rfl, hg10⟩
    have HG10 := Lib.hid hg10
    clear hg10 M5
    have N5 := Lib.hid (small_t v5 W10 HL5.out)
    obtain ⟨TL, hTL⟩ : ∃ V, smal v5 1099511627776 = V := ⟨_, rfl⟩
    rw [hTL] at N5
    have HTL := Lib.hid hTL
    clear hTL
    go_wp2_with fail
    refine N5.out.mono ?_
    rintro en _ ⟨rfl, rfl⟩
    have d4 := HG10.out.ev.c4
    have f4 := HG10.out.ev.fz 4 (by decide)
    have d5 := HG10.out.ev.c5
    have f5 := HG10.out.ev.fz 5 (by decide)
    go_upto_region 8 with fail
    have HG11 : Hid (GR w ((W10.setCell ⟨ge, 4, none⟩ (.int .i64 FR)).setCell ⟨ge, 5, none⟩ (.int .i64 TL)) gc ge bs p5 b5 ⟨1, V, ID, TR, FR, TL, 0, []⟩) := Lib.hid (by
      have hA := HG10.out
      have hA := hA.set 4 (.int .i64 FR) (hA.ev.set4 FR)
      have hA := hA.set 5 (.int .i64 TL) (hA.ev.set5 TL)
      exact hA)
    generalize (W10.setCell ⟨ge, 4, none⟩ (.int .i64 FR)).setCell ⟨ge, 5, none⟩ (.int .i64 TL) = W11 at *
    clear d4 f4 d5 f5
    obtain ⟨⟨v6, p6, b6⟩, hv6⟩ : ∃ x, numR bs p5 b5 = x := ⟨_, rfl⟩
    have HV6 := Lib.hid hv6
    have HL6 := Lib.hid (numR_lt HB.out HG11.out.pl hv6)
    have M6 := Lib.hid (HG11.out.call HB.out HL.out hv6)
    clear hv6
    go_wp2_with fail
    refine M6.out.mono ?_
    rintro en W12 ⟨rfl, hg12⟩
    have HG12 := Lib.hid hg12
    clear hg12 M6
    have i6 : IntKind.u32.wrap (v6 : Int) = ((v6 % 4294967296 : Nat) : Int) := wrap_u32
    obtain ⟨SM, hSM⟩ : ∃ S : Nat, v6 % 4294967296 = S := ⟨_, rfl⟩
    rw [hSM] at i6
    have HSM := Lib.hid hSM
    clear hSM
    have d6 := HG12.out.ev.c6
    have f6 := HG12.out.ev.fz 6 (by decide)
    go_upto_region 14 with fail
    have HG13 : Hid (GR w (W12.setCell ⟨ge, 6, none⟩ (.int .u32 (SM : Int))) gc ge bs p6 b6 ⟨1, V, ID, TR, FR, TL, (SM : Int), []⟩) := Lib.hid (by
      have hA := HG12.out
      have hA := hA.set 6 (.int .u32 (SM : Int)) (hA.ev.set6 (SM : Int))
      exact hA)
    generalize W12.setCell ⟨ge, 6, none⟩ (.int .u32 (SM : Int)) = W13 at *
    clear d6 f6
    clear HG5 HG6 HG7 HG8 HG9 HG10 HG11 HG12 N2 N3 N4 N5 i6
    have HRD : Hid (readD bs = (⟨1, V, ID, TR, FR, TL, (SM : Int), []⟩, b6)) := Lib.hid (by
      have hk := HK.out
      unfold readD
      simp only [hk, HV1.out, HV2.out, HV3.out, HV4.out, HV5.out, HV6.out, HVV.out, HID.out, HTR.out, HFR.out, HTL.out, HSM.out, if_true]
      )
    have hok : Ent.ok ⟨1, V, ID, TR, FR, TL, (SM : Int), []⟩ ∧ (Ent.tx ⟨1, V, ID, TR, FR, TL, (SM : Int), []⟩).length ≤ 1000 := by
      have h := readD_ok HB.out (by have := HL.out; omega)
      rw [HRD.out] at h
      exact h
    have HRE : Hid (R = if b6 = false ∧ Ent.put ⟨1, V, ID, TR, FR, TL, (SM : Int), []⟩ = (bs, 0) then (⟨1, V, ID, TR, FR, TL, (SM : Int), []⟩, 0) else (Ent.zero, 2)) := Lib.hid (by rw [HR.out]; unfold getD2; rw [HRD.out])
    obtain ⟨EE, hEE⟩ : ∃ EE, EE = (⟨1, V, ID, TR, FR, TL, (SM : Int), []⟩ : Ent) := ⟨_, rfl⟩
    rw [← hEE] at hok HRE
    have HGE : Hid (GR w W13 gc ge bs _ b6 EE) := Lib.hid (by rw [hEE]; exact HG13.out)
    have MP := dput_any EE W13 hok.1 (by have := hok.2; omega)
    have hbt : EE.may → ∀ d ∈ EE.bytes, d < 256 := fun h => bytes_lt EE (by
      have h3 := h.2.2
      unfold Ent.says at h3
      split at h3
      · omega
      · split at h3
        · omega
        · split at h3
          · omega
          · split at h3
            · omega
            · exact h3.elim)
    have hpf : (EE.may ∧ EE.put = (EE.bytes, 0)) ∨ (EE.put = ([], 1)) := by
      unfold Ent.put
      by_cases h : EE.may
      · exact .inl ⟨h, if_pos h⟩
      · exact .inr (if_neg h)
    obtain ⟨⟨P, f⟩, hput⟩ : ∃ x, EE.put = x := ⟨_, rfl⟩
    rw [hput] at MP HRE hpf
    have HPB : Hid (f = 0 → ∀ d ∈ P, d < 256) := Lib.hid (fun hf => by
      rcases hpf with ⟨h1, h2⟩ | h2
      · injection h2 with h2 _
        rw [h2]
        exact hbt h1
      · injection h2 with _ h2
        omega)
    unfold DPutPost Ent.val str at MP
    simp only at MP
    have HMP := Lib.hid MP
    have d0 := HGE.out.ev.c0
    have d1 := HGE.out.ev.c1
    have d2 := HGE.out.ev.c2
    have d3 := HGE.out.ev.c3
    have d4 := HGE.out.ev.c4
    have d5 := HGE.out.ev.c5
    have d6 := HGE.out.ev.c6
    have d7 := HGE.out.ev.c7
    clear hok hEE MP hbt hpf hput
    go_upto_region 14 with fail
    go_wp2_with fail
    refine HMP.out.mono ?_
    rintro en W9 ⟨rfl, hb9⟩
    have HG9 := Lib.hid (HGE.out.on hb9)
    clear d0 d1 d2 d3 d4 d5 d6 d7 hb9 HMP HGE
    have r2 := HG9.out.rd.c2
    have z0 := HG9.out.z.c0
    have z1 := HG9.out.z.c1
    have z2 := HG9.out.z.c2
    have z3 := HG9.out.z.c3
    have z4 := HG9.out.z.c4
    have z5 := HG9.out.z.c5
    have z6 := HG9.out.z.c6
    have z7 := HG9.out.z.c7
    have k0 := HG9.out.z.fz 0 (by decide)
    have k1 := HG9.out.z.fz 1 (by decide)
    have k2 := HG9.out.z.fz 2 (by decide)
    have k3 := HG9.out.z.fz 3 (by decide)
    have k4 := HG9.out.z.fz 4 (by decide)
    have k5 := HG9.out.z.fz 5 (by decide)
    have k6 := HG9.out.z.fz 6 (by decide)
    have k7 := HG9.out.z.fz 7 (by decide)
    cases b6
    case true =>
      have HF : Hid (R = (Ent.zero, 2)) := Lib.hid (by rw [HRE.out, if_neg (by simp)])
      go_wp2
      (try rw [Exit.noGoto_ret])
      refine bodyPost_ret (v := .tuple #[Ent.zero.val, .int .i64 2]) ?_ rfl ⟨?_, ?_⟩
      · simp [results, Tryd.results17, go_sem, Ent.val, str, z0, z1, z2, z3, z4, z5, z6, z7, Ent.zero]
      · rw [HF.out]
      · exact below_set8 HG9.out.below (Nat.le_refl _) _ _ _ _ _ _ _ _
    by_cases hf : f = 0
    case neg =>
      have HF : Hid (R = (Ent.zero, 2)) := Lib.hid (by rw [HRE.out, if_neg (fun h => hf (Prod.mk.inj h.2).2)])
      have e2 : (f != 0) = true := by simpa using hf
      go_wp2
      (try rw [Exit.noGoto_ret])
      refine bodyPost_ret (v := .tuple #[Ent.zero.val, .int .i64 2]) ?_ rfl ⟨?_, ?_⟩
      · simp [results, Tryd.results17, go_sem, Ent.val, str, z0, z1, z2, z3, z4, z5, z6, z7, Ent.zero]
      · rw [HF.out]
      · exact below_set8 HG9.out.below (Nat.le_refl _) _ _ _ _ _ _ _ _
    subst hf
    have hqs := strB_eq (HPB.out rfl) HB.out
    by_cases hp : P = bs
    case neg =>
      have HF : Hid (R = (Ent.zero, 2)) := Lib.hid (by rw [HRE.out, if_neg (fun h => hp (Prod.mk.inj h.2).1)])
      rw [decide_eq_false hp] at hqs
      go_wp2
      (try rw [Exit.noGoto_ret])
      refine bodyPost_ret (v := .tuple #[Ent.zero.val, .int .i64 2]) ?_ rfl ⟨?_, ?_⟩
      · simp [results, Tryd.results17, go_sem, Ent.val, str, z0, z1, z2, z3, z4, z5, z6, z7, Ent.zero]
      · rw [HF.out]
      · exact below_set8 HG9.out.below (Nat.le_refl _) _ _ _ _ _ _ _ _
    have HF : Hid (R = (EE, 0)) := Lib.hid (by rw [HRE.out, if_pos ⟨rfl, by rw [hp]⟩])
    rw [decide_eq_true hp] at hqs
    have d0 := HG9.out.ev.c0
    have d1 := HG9.out.ev.c1
    have d2 := HG9.out.ev.c2
    have d3 := HG9.out.ev.c3
    have d4 := HG9.out.ev.c4
    have d5 := HG9.out.ev.c5
    have d6 := HG9.out.ev.c6
    have d7 := HG9.out.ev.c7
    clear hp
    go_wp2
    (try rw [Exit.noGoto_ret])
    refine bodyPost_ret (v := .tuple #[EE.val, .int .i64 0]) ?_ rfl ⟨?_, ?_⟩
    · simp [results, Tryd.results17, go_sem, Ent.val, str, z0, z1, z2, z3, z4, z5, z6, z7]
    · rw [HF.out]
    · exact below_set8 HG9.out.below (Nat.le_refl _) _ _ _ _ _ _ _ _
  by_cases q2 : c = 2
  case pos =>
    subst q2
    go_upto_region 11 with fail
    clear d0
    obtain ⟨⟨v2, p2, b2⟩, hv2⟩ : ∃ x, numR bs p1 b1 = x := ⟨_, rfl⟩
    have HV2 := Lib.hid hv2
    have HL2 := Lib.hid (numR_lt HB.out HG5.out.pl hv2)
    have M2 := Lib.hid (HG5.out.call HB.out HL.out hv2)
    clear hv2
    go_wp2_with fail
    refine M2.out.mono ?_
    rintro en W6 ⟨rfl, hg6⟩
    have HG6 := Lib.hid hg6
    clear hg6 M2
    have N2 := Lib.hid (small_v v2 W6 HL2.out)
    obtain ⟨ID, hID⟩ : ∃ V, smal v2 1073741824 = V := ⟨_, rfl⟩
    rw [hID] at N2
    have HID := Lib.hid hID
    clear hID
    go_wp2_with fail
    refine N2.out.mono ?_
    rintro en _ ⟨rfl, rfl⟩
    have d2 := HG6.out.ev.c2
    have f2 := HG6.out.ev.fz 2 (by decide)
    go_upto_region 14 with fail
    have HG8 : Hid (GR w (W6.setCell ⟨ge, 2, none⟩ (.int .i64 ID)) gc ge bs p2 b2 ⟨2, V, ID, 0, 0, 0, 0, []⟩) := Lib.hid (by
      have hA := HG6.out
      have hA := hA.set 2 (.int .i64 ID) (hA.ev.set2 ID)
      exact hA)
    generalize W6.setCell ⟨ge, 2, none⟩ (.int .i64 ID) = W8 at *
    clear d2 f2
    clear HG5 HG6 N2 q1
    have HRD : Hid (readD bs = (⟨2, V, ID, 0, 0, 0, 0, []⟩, b2)) := Lib.hid (by
      have hk := HK.out
      unfold readD
      simp only [hk, HV1.out, HV2.out, HVV.out, HID.out, if_true]
      rw [if_neg (by decide)]
      )
    have hok : Ent.ok ⟨2, V, ID, 0, 0, 0, 0, []⟩ ∧ (Ent.tx ⟨2, V, ID, 0, 0, 0, 0, []⟩).length ≤ 1000 := by
      have h := readD_ok HB.out (by have := HL.out; omega)
      rw [HRD.out] at h
      exact h
    have HRE : Hid (R = if b2 = false ∧ Ent.put ⟨2, V, ID, 0, 0, 0, 0, []⟩ = (bs, 0) then (⟨2, V, ID, 0, 0, 0, 0, []⟩, 0) else (Ent.zero, 2)) := Lib.hid (by rw [HR.out]; unfold getD2; rw [HRD.out])
    obtain ⟨EE, hEE⟩ : ∃ EE, EE = (⟨2, V, ID, 0, 0, 0, 0, []⟩ : Ent) := ⟨_, rfl⟩
    rw [← hEE] at hok HRE
    have HGE : Hid (GR w W8 gc ge bs _ b2 EE) := Lib.hid (by rw [hEE]; exact HG8.out)
    have MP := dput_any EE W8 hok.1 (by have := hok.2; omega)
    have hbt : EE.may → ∀ d ∈ EE.bytes, d < 256 := fun h => bytes_lt EE (by
      have h3 := h.2.2
      unfold Ent.says at h3
      split at h3
      · omega
      · split at h3
        · omega
        · split at h3
          · omega
          · split at h3
            · omega
            · exact h3.elim)
    have hpf : (EE.may ∧ EE.put = (EE.bytes, 0)) ∨ (EE.put = ([], 1)) := by
      unfold Ent.put
      by_cases h : EE.may
      · exact .inl ⟨h, if_pos h⟩
      · exact .inr (if_neg h)
    obtain ⟨⟨P, f⟩, hput⟩ : ∃ x, EE.put = x := ⟨_, rfl⟩
    rw [hput] at MP HRE hpf
    have HPB : Hid (f = 0 → ∀ d ∈ P, d < 256) := Lib.hid (fun hf => by
      rcases hpf with ⟨h1, h2⟩ | h2
      · injection h2 with h2 _
        rw [h2]
        exact hbt h1
      · injection h2 with _ h2
        omega)
    unfold DPutPost Ent.val str at MP
    simp only at MP
    have HMP := Lib.hid MP
    have d0 := HGE.out.ev.c0
    have d1 := HGE.out.ev.c1
    have d2 := HGE.out.ev.c2
    have d3 := HGE.out.ev.c3
    have d4 := HGE.out.ev.c4
    have d5 := HGE.out.ev.c5
    have d6 := HGE.out.ev.c6
    have d7 := HGE.out.ev.c7
    clear hok hEE MP hbt hpf hput
    go_upto_region 14 with fail
    go_wp2_with fail
    refine HMP.out.mono ?_
    rintro en W9 ⟨rfl, hb9⟩
    have HG9 := Lib.hid (HGE.out.on hb9)
    clear d0 d1 d2 d3 d4 d5 d6 d7 hb9 HMP HGE
    have r2 := HG9.out.rd.c2
    have z0 := HG9.out.z.c0
    have z1 := HG9.out.z.c1
    have z2 := HG9.out.z.c2
    have z3 := HG9.out.z.c3
    have z4 := HG9.out.z.c4
    have z5 := HG9.out.z.c5
    have z6 := HG9.out.z.c6
    have z7 := HG9.out.z.c7
    have k0 := HG9.out.z.fz 0 (by decide)
    have k1 := HG9.out.z.fz 1 (by decide)
    have k2 := HG9.out.z.fz 2 (by decide)
    have k3 := HG9.out.z.fz 3 (by decide)
    have k4 := HG9.out.z.fz 4 (by decide)
    have k5 := HG9.out.z.fz 5 (by decide)
    have k6 := HG9.out.z.fz 6 (by decide)
    have k7 := HG9.out.z.fz 7 (by decide)
    cases b2
    case true =>
      have HF : Hid (R = (Ent.zero, 2)) := Lib.hid (by rw [HRE.out, if_neg (by simp)])
      go_wp2
      (try rw [Exit.noGoto_ret])
      refine bodyPost_ret (v := .tuple #[Ent.zero.val, .int .i64 2]) ?_ rfl ⟨?_, ?_⟩
      · simp [results, Tryd.results17, go_sem, Ent.val, str, z0, z1, z2, z3, z4, z5, z6, z7, Ent.zero]
      · rw [HF.out]
      · exact below_set8 HG9.out.below (Nat.le_refl _) _ _ _ _ _ _ _ _
    by_cases hf : f = 0
    case neg =>
      have HF : Hid (R = (Ent.zero, 2)) := Lib.hid (by rw [HRE.out, if_neg (fun h => hf (Prod.mk.inj h.2).2)])
      have e2 : (f != 0) = true := by simpa using hf
      go_wp2
      (try rw [Exit.noGoto_ret])
      refine bodyPost_ret (v := .tuple #[Ent.zero.val, .int .i64 2]) ?_ rfl ⟨?_, ?_⟩
      · simp [results, Tryd.results17, go_sem, Ent.val, str, z0, z1, z2, z3, z4, z5, z6, z7, Ent.zero]
      · rw [HF.out]
      · exact below_set8 HG9.out.below (Nat.le_refl _) _ _ _ _ _ _ _ _
    subst hf
    have hqs := strB_eq (HPB.out rfl) HB.out
    by_cases hp : P = bs
    case neg =>
      have HF : Hid (R = (Ent.zero, 2)) := Lib.hid (by rw [HRE.out, if_neg (fun h => hp (Prod.mk.inj h.2).1)])
      rw [decide_eq_false hp] at hqs
      go_wp2
      (try rw [Exit.noGoto_ret])
      refine bodyPost_ret (v := .tuple #[Ent.zero.val, .int .i64 2]) ?_ rfl ⟨?_, ?_⟩
      · simp [results, Tryd.results17, go_sem, Ent.val, str, z0, z1, z2, z3, z4, z5, z6, z7, Ent.zero]
      · rw [HF.out]
      · exact below_set8 HG9.out.below (Nat.le_refl _) _ _ _ _ _ _ _ _
    have HF : Hid (R = (EE, 0)) := Lib.hid (by rw [HRE.out, if_pos ⟨rfl, by rw [hp]⟩])
    rw [decide_eq_true hp] at hqs
    have d0 := HG9.out.ev.c0
    have d1 := HG9.out.ev.c1
    have d2 := HG9.out.ev.c2
    have d3 := HG9.out.ev.c3
    have d4 := HG9.out.ev.c4
    have d5 := HG9.out.ev.c5
    have d6 := HG9.out.ev.c6
    have d7 := HG9.out.ev.c7
    clear hp
    go_wp2
    (try rw [Exit.noGoto_ret])
    refine bodyPost_ret (v := .tuple #[EE.val, .int .i64 0]) ?_ rfl ⟨?_, ?_⟩
    · simp [results, Tryd.results17, go_sem, Ent.val, str, z0, z1, z2, z3, z4, z5, z6, z7]
    · rw [HF.out]
    · exact below_set8 HG9.out.below (Nat.le_refl _) _ _ _ _ _ _ _ _
  by_cases q4 : c = 4
  case pos =>
    subst q4
    go_upto_region 13 with fail
    clear d0
    obtain ⟨⟨v2, p2, b2⟩, hv2⟩ : ∃ x, numR bs p1 b1 = x := ⟨_, rfl⟩
    have HV2 := Lib.hid hv2
    have HL2 := Lib.hid (numR_lt HB.out HG5.out.pl hv2)
    have M2 := Lib.hid (HG5.out.call HB.out HL.out hv2)
    clear hv2
    go_wp2_with fail
    refine M2.out.mono ?_
    rintro en W6 ⟨rfl, hg6⟩
    have HG6 := Lib.hid hg6
    clear hg6 M2
    obtain ⟨⟨t3, p3, b3⟩, hv3⟩ : ∃ x, textR bs p2 b2 v2 = x := ⟨_, rfl⟩
    have HV3 := Lib.hid hv3
    have M3 := Lib.hid (HG6.out.calltext HL.out HL2.out hv3)
    unfold str at M3
    clear hv3
    go_wp2_with fail
    refine M3.out.mono ?_
    rintro en W7 ⟨rfl, hg7⟩
    have HG7 := Lib.hid hg7
    clear hg7 M3
    have d7 := HG7.out.ev.c7
    have f7 := HG7.out.ev.fz 7 (by decide)
    go_upto_region 14 with fail
    have HG8 : Hid (GR w (W7.setCell ⟨ge, 7, none⟩ (str (bytesU t3))) gc ge bs p3 b3 ⟨4, V, 0, 0, 0, 0, 0, bytesU t3⟩) := Lib.hid (by
      have hA := HG7.out
      have hA := hA.set 7 (str (bytesU t3)) (hA.ev.set7 (bytesU t3))
      exact hA)
    unfold str at HG8
    generalize W7.setCell ⟨ge, 7, none⟩ (.string ⟨(bytesU t3).toArray⟩) = W8 at *
    clear d7 f7
    clear HG5 HG6 HG7 q1 q2
    have HRD : Hid (readD bs = (⟨4, V, 0, 0, 0, 0, 0, bytesU t3⟩, b3)) := Lib.hid (by
      have hk := HK.out
      unfold readD
      simp only [hk, HV1.out, HV2.out, HV3.out, HVV.out, if_true]
      rw [if_neg (by decide), if_neg (by decide)]
      )
    have hok : Ent.ok ⟨4, V, 0, 0, 0, 0, 0, bytesU t3⟩ ∧ (Ent.tx ⟨4, V, 0, 0, 0, 0, 0, bytesU t3⟩).length ≤ 1000 := by
      have h := readD_ok HB.out (by have := HL.out; omega)
      rw [HRD.out] at h
      exact h
    have HRE : Hid (R = if b3 = false ∧ Ent.put ⟨4, V, 0, 0, 0, 0, 0, bytesU t3⟩ = (bs, 0) then (⟨4, V, 0, 0, 0, 0, 0, bytesU t3⟩, 0) else (Ent.zero, 2)) := Lib.hid (by rw [HR.out]; unfold getD2; rw [HRD.out])
    obtain ⟨EE, hEE⟩ : ∃ EE, EE = (⟨4, V, 0, 0, 0, 0, 0, bytesU t3⟩ : Ent) := ⟨_, rfl⟩
    rw [← hEE] at hok HRE
    have HGE : Hid (GR w W8 gc ge bs _ b3 EE) := Lib.hid (by rw [hEE]; exact HG8.out)
    have MP := dput_any EE W8 hok.1 (by have := hok.2; omega)
    have hbt : EE.may → ∀ d ∈ EE.bytes, d < 256 := fun h => bytes_lt EE (by
      have h3 := h.2.2
      unfold Ent.says at h3
      split at h3
      · omega
      · split at h3
        · omega
        · split at h3
          · omega
          · split at h3
            · omega
            · exact h3.elim)
    have hpf : (EE.may ∧ EE.put = (EE.bytes, 0)) ∨ (EE.put = ([], 1)) := by
      unfold Ent.put
      by_cases h : EE.may
      · exact .inl ⟨h, if_pos h⟩
      · exact .inr (if_neg h)
    obtain ⟨⟨P, f⟩, hput⟩ : ∃ x, EE.put = x := ⟨_, rfl⟩
    rw [hput] at MP HRE hpf
    have HPB : Hid (f = 0 → ∀ d ∈ P, d < 256) := Lib.hid (fun hf => by
      rcases hpf with ⟨h1, h2⟩ | h2
      · injection h2 with h2 _
        rw [h2]
        exact hbt h1
      · injection h2 with _ h2
        omega)
    unfold DPutPost Ent.val str at MP
    simp only at MP
    have HMP := Lib.hid MP
    have d0 := HGE.out.ev.c0
    have d1 := HGE.out.ev.c1
    have d2 := HGE.out.ev.c2
    have d3 := HGE.out.ev.c3
    have d4 := HGE.out.ev.c4
    have d5 := HGE.out.ev.c5
    have d6 := HGE.out.ev.c6
    have d7 := HGE.out.ev.c7
    clear hok hEE MP hbt hpf hput
    go_upto_region 14 with fail
    go_wp2_with fail
    refine HMP.out.mono ?_
    rintro en W9 ⟨rfl, hb9⟩
    have HG9 := Lib.hid (HGE.out.on hb9)
    clear d0 d1 d2 d3 d4 d5 d6 d7 hb9 HMP HGE
    have r2 := HG9.out.rd.c2
    have z0 := HG9.out.z.c0
    have z1 := HG9.out.z.c1
    have z2 := HG9.out.z.c2
    have z3 := HG9.out.z.c3
    have z4 := HG9.out.z.c4
    have z5 := HG9.out.z.c5
    have z6 := HG9.out.z.c6
    have z7 := HG9.out.z.c7
    have k0 := HG9.out.z.fz 0 (by decide)
    have k1 := HG9.out.z.fz 1 (by decide)
    have k2 := HG9.out.z.fz 2 (by decide)
    have k3 := HG9.out.z.fz 3 (by decide)
    have k4 := HG9.out.z.fz 4 (by decide)
    have k5 := HG9.out.z.fz 5 (by decide)
    have k6 := HG9.out.z.fz 6 (by decide)
    have k7 := HG9.out.z.fz 7 (by decide)
    cases b3
    case true =>
      have HF : Hid (R = (Ent.zero, 2)) := Lib.hid (by rw [HRE.out, if_neg (by simp)])
      go_wp2
      (try rw [Exit.noGoto_ret])
      refine bodyPost_ret (v := .tuple #[Ent.zero.val, .int .i64 2]) ?_ rfl ⟨?_, ?_⟩
      · simp [results, Tryd.results17, go_sem, Ent.val, str, z0, z1, z2, z3, z4, z5, z6, z7, Ent.zero]
      · rw [HF.out]
      · exact below_set8 HG9.out.below (Nat.le_refl _) _ _ _ _ _ _ _ _
    by_cases hf : f = 0
    case neg =>
      have HF : Hid (R = (Ent.zero, 2)) := Lib.hid (by rw [HRE.out, if_neg (fun h => hf (Prod.mk.inj h.2).2)])
      have e2 : (f != 0) = true := by simpa using hf
      go_wp2
      (try rw [Exit.noGoto_ret])
      refine bodyPost_ret (v := .tuple #[Ent.zero.val, .int .i64 2]) ?_ rfl ⟨?_, ?_⟩
      · simp [results, Tryd.results17, go_sem, Ent.val, str, z0, z1, z2, z3, z4, z5, z6, z7, Ent.zero]
      · rw [HF.out]
      · exact below_set8 HG9.out.below (Nat.le_refl _) _ _ _ _ _ _ _ _
    subst hf
    have hqs := strB_eq (HPB.out rfl) HB.out
    by_cases hp : P = bs
    case neg =>
      have HF : Hid (R = (Ent.zero, 2)) := Lib.hid (by rw [HRE.out, if_neg (fun h => hp (Prod.mk.inj h.2).1)])
      rw [decide_eq_false hp] at hqs
      go_wp2
      (try rw [Exit.noGoto_ret])
      refine bodyPost_ret (v := .tuple #[Ent.zero.val, .int .i64 2]) ?_ rfl ⟨?_, ?_⟩
      · simp [results, Tryd.results17, go_sem, Ent.val, str, z0, z1, z2, z3, z4, z5, z6, z7, Ent.zero]
      · rw [HF.out]
      · exact below_set8 HG9.out.below (Nat.le_refl _) _ _ _ _ _ _ _ _
    have HF : Hid (R = (EE, 0)) := Lib.hid (by rw [HRE.out, if_pos ⟨rfl, by rw [hp]⟩])
    rw [decide_eq_true hp] at hqs
    have d0 := HG9.out.ev.c0
    have d1 := HG9.out.ev.c1
    have d2 := HG9.out.ev.c2
    have d3 := HG9.out.ev.c3
    have d4 := HG9.out.ev.c4
    have d5 := HG9.out.ev.c5
    have d6 := HG9.out.ev.c6
    have d7 := HG9.out.ev.c7
    clear hp
    go_wp2
    (try rw [Exit.noGoto_ret])
    refine bodyPost_ret (v := .tuple #[EE.val, .int .i64 0]) ?_ rfl ⟨?_, ?_⟩
    · simp [results, Tryd.results17, go_sem, Ent.val, str, z0, z1, z2, z3, z4, z5, z6, z7]
    · rw [HF.out]
    · exact below_set8 HG9.out.below (Nat.le_refl _) _ _ _ _ _ _ _ _
  have e1 : ((c : Int) == 1) = false := by simp; omega
  have e2 : ((c : Int) == 2) = false := by simp; omega
  have e4 : ((c : Int) == 4) = false := by simp; omega
  go_upto_region 14 with fail
  clear d0
  have HRD : Hid (readD bs = (⟨(c : Int), V, 0, 0, 0, 0, 0, []⟩, b1)) := Lib.hid (by
    have hk := HK.out
    unfold readD
    simp only [hk, HV1.out, HVV.out]
    rw [if_neg q1, if_neg q2, if_neg q4]
    )
  have hok : Ent.ok ⟨(c : Int), V, 0, 0, 0, 0, 0, []⟩ ∧ (Ent.tx ⟨(c : Int), V, 0, 0, 0, 0, 0, []⟩).length ≤ 1000 := by
    have h := readD_ok HB.out (by have := HL.out; omega)
    rw [HRD.out] at h
    exact h
  have HRE : Hid (R = if b1 = false ∧ Ent.put ⟨(c : Int), V, 0, 0, 0, 0, 0, []⟩ = (bs, 0) then (⟨(c : Int), V, 0, 0, 0, 0, 0, []⟩, 0) else (Ent.zero, 2)) := Lib.hid (by rw [HR.out]; unfold getD2; rw [HRD.out])
  obtain ⟨EE, hEE⟩ : ∃ EE, EE = (⟨(c : Int), V, 0, 0, 0, 0, 0, []⟩ : Ent) := ⟨_, rfl⟩
  rw [← hEE] at hok HRE
  have HGE : Hid (GR w W5 gc ge bs _ b1 EE) := Lib.hid (by rw [hEE]; exact HG5.out)
  have MP := dput_any EE W5 hok.1 (by have := hok.2; omega)
  have hbt : EE.may → ∀ d ∈ EE.bytes, d < 256 := fun h => bytes_lt EE (by
    have h3 := h.2.2
    unfold Ent.says at h3
    split at h3
    · omega
    · split at h3
      · omega
      · split at h3
        · omega
        · split at h3
          · omega
          · exact h3.elim)
  have hpf : (EE.may ∧ EE.put = (EE.bytes, 0)) ∨ (EE.put = ([], 1)) := by
    unfold Ent.put
    by_cases h : EE.may
    · exact .inl ⟨h, if_pos h⟩
    · exact .inr (if_neg h)
  obtain ⟨⟨P, f⟩, hput⟩ : ∃ x, EE.put = x := ⟨_, rfl⟩
  rw [hput] at MP HRE hpf
  have HPB : Hid (f = 0 → ∀ d ∈ P, d < 256) := Lib.hid (fun hf => by
    rcases hpf with ⟨h1, h2⟩ | h2
    · injection h2 with h2 _
      rw [h2]
      exact hbt h1
    · injection h2 with _ h2
      omega)
  unfold DPutPost Ent.val str at MP
  simp only at MP
  have HMP := Lib.hid MP
  have d0 := HGE.out.ev.c0
  have d1 := HGE.out.ev.c1
  have d2 := HGE.out.ev.c2
  have d3 := HGE.out.ev.c3
  have d4 := HGE.out.ev.c4
  have d5 := HGE.out.ev.c5
  have d6 := HGE.out.ev.c6
  have d7 := HGE.out.ev.c7
  clear hok hEE MP hbt hpf hput
  go_wp2_with fail
  refine HMP.out.mono ?_
  rintro en W9 ⟨rfl, hb9⟩
  have HG9 := Lib.hid (HGE.out.on hb9)
  clear d0 d1 d2 d3 d4 d5 d6 d7 hb9 HMP HGE
  have r2 := HG9.out.rd.c2
  have z0 := HG9.out.z.c0
  have z1 := HG9.out.z.c1
  have z2 := HG9.out.z.c2
  have z3 := HG9.out.z.c3
  have z4 := HG9.out.z.c4
  have z5 := HG9.out.z.c5
  have z6 := HG9.out.z.c6
  have z7 := HG9.out.z.c7
  have k0 := HG9.out.z.fz 0 (by decide)
  have k1 := HG9.out.z.fz 1 (by decide)
  have k2 := HG9.out.z.fz 2 (by decide)
  have k3 := HG9.out.z.fz 3 (by decide)
  have k4 := HG9.out.z.fz 4 (by decide)
  have k5 := HG9.out.z.fz 5 (by decide)
  have k6 := HG9.out.z.fz 6 (by decide)
  have k7 := HG9.out.z.fz 7 (by decide)
  cases b1
  case true =>
    have HF : Hid (R = (Ent.zero, 2)) := Lib.hid (by rw [HRE.out, if_neg (by simp)])
    go_wp2
    (try rw [Exit.noGoto_ret])
    refine bodyPost_ret (v := .tuple #[Ent.zero.val, .int .i64 2]) ?_ rfl ⟨?_, ?_⟩
    · simp [results, Tryd.results17, go_sem, Ent.val, str, z0, z1, z2, z3, z4, z5, z6, z7, Ent.zero]
    · rw [HF.out]
    · exact below_set8 HG9.out.below (Nat.le_refl _) _ _ _ _ _ _ _ _
  by_cases hf : f = 0
  case neg =>
    have HF : Hid (R = (Ent.zero, 2)) := Lib.hid (by rw [HRE.out, if_neg (fun h => hf (Prod.mk.inj h.2).2)])
    have e2 : (f != 0) = true := by simpa using hf
    go_wp2
    (try rw [Exit.noGoto_ret])
    refine bodyPost_ret (v := .tuple #[Ent.zero.val, .int .i64 2]) ?_ rfl ⟨?_, ?_⟩
    · simp [results, Tryd.results17, go_sem, Ent.val, str, z0, z1, z2, z3, z4, z5, z6, z7, Ent.zero]
    · rw [HF.out]
    · exact below_set8 HG9.out.below (Nat.le_refl _) _ _ _ _ _ _ _ _
  subst hf
  have hqs := strB_eq (HPB.out rfl) HB.out
  by_cases hp : P = bs
  case neg =>
    have HF : Hid (R = (Ent.zero, 2)) := Lib.hid (by rw [HRE.out, if_neg (fun h => hp (Prod.mk.inj h.2).1)])
    rw [decide_eq_false hp] at hqs
    go_wp2
    (try rw [Exit.noGoto_ret])
    refine bodyPost_ret (v := .tuple #[Ent.zero.val, .int .i64 2]) ?_ rfl ⟨?_, ?_⟩
    · simp [results, Tryd.results17, go_sem, Ent.val, str, z0, z1, z2, z3, z4, z5, z6, z7, Ent.zero]
    · rw [HF.out]
    · exact below_set8 HG9.out.below (Nat.le_refl _) _ _ _ _ _ _ _ _
  have HF : Hid (R = (EE, 0)) := Lib.hid (by rw [HRE.out, if_pos ⟨rfl, by rw [hp]⟩])
  rw [decide_eq_true hp] at hqs
  have d0 := HG9.out.ev.c0
  have d1 := HG9.out.ev.c1
  have d2 := HG9.out.ev.c2
  have d3 := HG9.out.ev.c3
  have d4 := HG9.out.ev.c4
  have d5 := HG9.out.ev.c5
  have d6 := HG9.out.ev.c6
  have d7 := HG9.out.ev.c7
  clear hp
  go_wp2
  (try rw [Exit.noGoto_ret])
  refine bodyPost_ret (v := .tuple #[EE.val, .int .i64 0]) ?_ rfl ⟨?_, ?_⟩
  · simp [results, Tryd.results17, go_sem, Ent.val, str, z0, z1, z2, z3, z4, z5, z6, z7]
  · rw [HF.out]
  · exact below_set8 HG9.out.below (Nat.le_refl _) _ _ _ _ _ _ _ _
end Go.Proofs.YtdpoahjgdndnhaaDoor
