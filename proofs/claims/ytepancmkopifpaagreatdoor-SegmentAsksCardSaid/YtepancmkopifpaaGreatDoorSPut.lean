/-
  blockOf, Put of segments: what each returns; nothing that was there is written.
-/
import Derived.Test.YtepancmkopifpaaGreatDoorSByte
import Derived.Lib.SlBytesConst
import Derived.Deep.DeepCutAuto
set_option maxRecDepth 100000
namespace Go.Proofs.YtepancmkopifpaaGreatDoor
open Go.RowKit
attribute [local go_sem ↓] Go.wp_at_zero Go.wp_at_succ
set_option linter.unusedVariables false

/-- A struct variable of six cells: a segment's. -/
structure SgV (w : World) (g : Nat) (i k f t : Int) (a b : Value) : Prop where
  c0 : w.cell? ⟨g, 0, none⟩ = some (.int .i64 i)
  c1 : w.cell? ⟨g, 1, none⟩ = some (.int .i64 k)
  c2 : w.cell? ⟨g, 2, none⟩ = some (.int .i64 f)
  c3 : w.cell? ⟨g, 3, none⟩ = some (.int .i64 t)
  c4 : w.cell? ⟨g, 4, none⟩ = some a
  c5 : w.cell? ⟨g, 5, none⟩ = some b
  z0 : w.frozen? ⟨g, 0, none⟩ = false
  z1 : w.frozen? ⟨g, 1, none⟩ = false
  z2 : w.frozen? ⟨g, 2, none⟩ = false
  z3 : w.frozen? ⟨g, 3, none⟩ = false
  z4 : w.frozen? ⟨g, 4, none⟩ = false
  z5 : w.frozen? ⟨g, 5, none⟩ = false
theorem SgV.new (w : World) (i k f t : Int) (a b : Value) (ty : TypeId) : SgV (w.alloc (.cells #[.int .i64 i, .int .i64 k, .int .i64 f, .int .i64 t, a, b] ty)) w.heap.size i k f t a b := by constructor <;> simp
theorem SgV.lt {w : World} {g : Nat} {i k f t : Int} {a b : Value} (h : SgV w g i k f t a b) : g < w.heap.size := World.block_lt_of_cell? w _ h.c0
theorem SgV.of {w w' : World} {g : Nat} {i k f t : Int} {a b : Value} (h : SgV w g i k f t a b) (hc : ∀ j, w'.cell? ⟨g, j, none⟩ = w.cell? ⟨g, j, none⟩) (hz : ∀ j, w'.frozen? ⟨g, j, none⟩ = w.frozen? ⟨g, j, none⟩) : SgV w' g i k f t a b :=
  ⟨by rw [hc]; exact h.c0, by rw [hc]; exact h.c1, by rw [hc]; exact h.c2, by rw [hc]; exact h.c3, by rw [hc]; exact h.c4, by rw [hc]; exact h.c5, by rw [hz]; exact h.z0, by rw [hz]; exact h.z1, by rw [hz]; exact h.z2, by rw [hz]; exact h.z3, by rw [hz]; exact h.z4, by rw [hz]; exact h.z5⟩
theorem SgV.below {w w' : World} {g : Nat} {i k f t : Int} {a b : Value} (h : SgV w g i k f t a b) (hb : Below w.heap.size w w') : SgV w' g i k f t a b :=
  h.of (fun _ => hb.cell h.lt) (fun _ => hb.frozen h.lt)
theorem own_le {w : World} {base base' size n : Nat} {e : TypeId} {v : Value} {xs : List Value} (h : w.ownsRow base e size v n xs) (hb : base' ≤ base) : w.ownsRow base' e size v n xs := by
  refine ⟨h.1, ?_⟩
  rcases h.2 with h1 | ⟨g, cap, cur, e, hbg, r⟩
  · exact .inl h1
  · exact .inr ⟨g, cap, cur, e, Nat.le_trans hb hbg, r⟩
theorem own_on {w w' : World} {base size n : Nat} {e : TypeId} {v : Value} {xs : List Value} (h : w.ownsRow base e size v n xs) (hb : Below w.heap.size w w') : w'.ownsRow base e size v n xs :=
  h.kept (row := none) (grown_of hb none) (by cases h : v.ownBlock <;> simp)
theorem BRow.of_own {w : World} {base g n cap : Nat} {d : List Nat} (h : w.ownsRow base 5 1 (.slice (some ⟨g, 0, Option.none⟩) n cap) n (bytesV d)) (hb : ∀ c ∈ d, c < 256) : BRow w (some ⟨g, 0, Option.none⟩) n cap d := by
  obtain ⟨s1, s2, s3, s4, s5, s6⟩ := Bytes.own h hb
  exact ⟨s1, s2, s3, s4, fun e => by cases e⟩
/-- From a on nothing below B has turned, and every cell reads as it did (a row may have got a mark). -/
structure On (B : Nat) (a u : World) : Prop where
  le : B ≤ a.heap.size
  below : Below B a u
  cell : ∀ ad v, a.cell? ad = some v → u.cell? ad = some v
theorem On.refl {B : Nat} (a : World) (h : B ≤ a.heap.size) : On B a a := ⟨h, Below.refl _ _, fun _ _ h => h⟩
theorem On.call_ {B : Nat} {a u w : World} (hb : Below u.heap.size u w) (h : On B a u) : On B a w :=
  ⟨h.le, h.below.trans ⟨hb.os, hb.tape, hb.output, hb.size, fun k hk => hb.block k (Nat.lt_of_lt_of_le hk (Nat.le_trans h.le h.below.size))⟩, fun ad v hv => by
    have := h.cell ad v hv
    rw [hb.cell (World.block_lt_of_cell? u _ this)]
    exact this⟩
theorem On.alloc_ {B : Nat} {a u : World} {o : Obj} (h : On B a u) : On B a (u.alloc o) := On.call_ (below_box u o) h
theorem On.drew_ {B : Nat} {a u : World} {n : Nat} (h : On B a u) : On B a (u.drewN n) := On.call_ (belowN u n) h
theorem On.drew1_ {B : Nat} {a u : World} (h : On B a u) : On B a u.drew := On.call_ (belowN u 1) h
theorem cell_freeze (w : World) (p ad : Addr) (n : Nat) : (w.freeze p n).cell? ad = w.cell? ad := by
  unfold World.freeze
  split
  · rfl
  · unfold World.cell?
    simp only [Array.getElem?_modify]
    by_cases h : p.block = ad.block
    · rw [if_pos h]
      cases w.heap[ad.block]? with
      | none => rfl
      | some o => cases o <;> rfl
    · rw [if_neg h]
theorem On.freeze_ {B : Nat} {a u : World} {p : Addr} {n : Nat} (hp : B ≤ p.block) (h : On B a u) : On B a (u.freeze p n) := by
  refine ⟨h.le, h.below.trans ?_, fun ad v hv => by rw [cell_freeze]; exact h.cell ad v hv⟩
  unfold World.freeze
  split
  · exact Below.refl B u
  · exact ⟨rfl, rfl, rfl, by simp, fun k hk => by
      simp only [Array.getElem?_modify]
      rw [if_neg (by omega)]⟩
theorem BRow.on {w w' : World} {B : Nat} {A : Option Addr} {n cap : Nat} {bs : List Nat} (h : BRow w A n cap bs) (hb : On B w w') : BRow w' A n cap bs :=
  ⟨⟨h.bytes.1, fun hp => by
    obtain ⟨ad, e, hc⟩ := h.bytes.2 hp
    exact ⟨ad, e, fun j hj => hb.cell _ _ (hc j hj)⟩⟩, h.len, h.le, h.max, h.nil⟩
theorem SgV.on {w w' : World} {B g : Nat} {i k f t : Int} {a b : Value} (h : SgV w g i k f t a b) (hb : On B w w') : w'.cell? ⟨g, 0, none⟩ = some (.int .i64 i) ∧ w'.cell? ⟨g, 1, none⟩ = some (.int .i64 k) ∧ w'.cell? ⟨g, 2, none⟩ = some (.int .i64 f) ∧ w'.cell? ⟨g, 3, none⟩ = some (.int .i64 t) :=
  ⟨hb.cell _ _ h.c0, hb.cell _ _ h.c1, hb.cell _ _ h.c2, hb.cell _ _ h.c3⟩
/-- The row of a constant string's bytes. -/
theorem BRow.lit (w : World) : BRow (w.alloc (.cells #[.int .u8 84, .int .u8 75] 5)) (some ⟨w.heap.size, 0, Option.none⟩) 2 2 [84, 75] :=
  BRow.of_own (World.ownsRow_lit (base := 0) (size := 1) w #[.int .u8 84, .int .u8 75] 2 (Nat.zero_le _) (by unfold maxLen; omega) rfl) (fun c hc => by simp only [List.mem_cons, List.not_mem_nil, or_false] at hc; omega)
theorem conv_at {w : World} {g : Nat} {C : Array Value} {fr : Nat × Nat} (n c : Nat) (h : w.heap[g]? = some (.cells C 5 fr)) : (convert 26 26 (.slice (some ⟨g, 0, none⟩) n c)).run Tryz.prog w = .ok (.slice (some ⟨g, 0, none⟩) n c) (w.freeze ⟨g, C.size, none⟩ 1) := by
  have hsh : w.shape? g = some (5, C.size) := by unfold World.shape?; rw [h]
  simp [convert, run_underlying Tryz.underlying26, run_underlying Tryz.underlying5, markStringish, hsh]
theorem lit_block (w : World) (o : Obj) : (w.alloc o).heap[w.heap.size]? = some o := by
  show (w.heap.push o)[w.heap.size]? = _
  simp
theorem block_on {u w : World} {g : Nat} {o : Obj} (hb : Below u.heap.size u w) (h : u.heap[g]? = some o) : w.heap[g]? = some o := by
  rw [hb.block g (by
    rcases Nat.lt_or_ge g u.heap.size with h1 | h1
    · exact h1
    · rw [Array.getElem?_eq_none h1] at h; cases h)]
  exact h
theorem aOn_num {W : Int} (hW : 0 < W) : ∀ (l : List Ag) (p : Int), (∀ a ∈ l, a.may ∧ a.ok) → 0 ≤ p → (∀ n ∈ aOn W p l, n < 18446744073709551616) ∧ (aOn W p l).length ≤ 7 * l.length
  | [], p, _, _ => ⟨fun n hn => by simp [aOn] at hn, Nat.le_refl _⟩
  | a :: r, p, h, h0 => by
    obtain ⟨hm, hk⟩ := h a (by simp)
    obtain ⟨hb, hc, hh, _⟩ := hm
    obtain ⟨k1, k2, k3, k4, k5, k6, k7⟩ := hk
    have hd : 0 ≤ a.fr / W := Int.ediv_nonneg hb.1 (Int.le_of_lt hW)
    have hd2 : a.fr / W ≤ a.fr := Int.ediv_le_self _ hb.1
    obtain ⟨p1, p2⟩ := aOn_num hW r (a.fr / W + 1) (fun x hx => h x (by simp [hx])) (by omega)
    obtain ⟨_, z1⟩ := zig_nat k4
    obtain ⟨_, z2⟩ := zig_nat k3
    unfold Ag.begin_ at hb
    unfold Ag.count at hc
    unfold Ag.hold at hh
    unfold In64 at *
    rw [aOn]
    have hone : (∀ n ∈ aOne W p a, n < 18446744073709551616) ∧ (aOne W p a).length ≤ 7 := by
      unfold aOne
      generalize a.fr / W = q at *
      split
      · refine ⟨fun n hn => ?_, by simp⟩
        simp only [List.mem_cons, List.not_mem_nil, or_false] at hn
        rcases hn with rfl | rfl | rfl | rfl | rfl | rfl | rfl <;> first | exact z1 | exact z2 | omega
      · refine ⟨fun n hn => ?_, by simp⟩
        simp only [List.mem_cons, List.not_mem_nil, or_false] at hn
        rcases hn with rfl | rfl | rfl <;> first | exact z1 | exact z2 | omega
    refine ⟨fun n hn => ?_, ?_⟩
    · rw [List.mem_append] at hn
      rcases hn with hn | hn
      · exact hone.1 n hn
      · exact p1 n hn
    · rw [List.length_append, List.length_cons]
      have := hone.2
      omega
theorem block_len {s : Sg} (hm : s.may) (ho : s.ok) : s.block.length ≤ 5000 := by
  by_cases h0 : s.tier = 0
  · obtain ⟨e, h, _⟩ := has_zero hm.2.2.2 ho h0
    rw [e]
    have := putB_len h.1 h.2
    have := h.1.2
    omega
  · obtain ⟨e, h, _⟩ := has_more hm.2.2.2 ho h0
    rw [e]
    have hk := h.1.1.1
    have hW := wid_coarse hk
    obtain ⟨p, q⟩ := aOn_num hW.1 s.ag 0 (fun a ha => ⟨by
      obtain ⟨i, hi, rfl⟩ := List.mem_iff_getElem.1 ha
      have := (h.1.1.2 i hi).1
      unfold agAt at this
      rw [List.getD_eq_getElem?_getD, List.getElem?_eq_getElem hi] at this
      exact this, h.2 a ha⟩) (Int.le_refl 0)
    have h64 := h.1.2
    unfold putA
    have := bytesOf_ten (s.ag.length :: aOn (wid s.tier) 0 s.ag) (fun n hn => by
      rw [List.mem_cons] at hn
      rcases hn with rfl | hn
      · omega
      · exact p n hn)
    rw [List.length_cons] at this
    omega
theorem concat_six {w : World} {gm g1 g2 g3 g4 gb n1 n2 n3 n4 nb c1 c2 c3 c4 cb I K F G : Nat} {bl : List Nat} (r0 : BRow w (some ⟨gm, 0, none⟩) 2 2 [84, 75]) (r1 : BRow w (some ⟨g1, 0, none⟩) n1 c1 (enc I)) (r2 : BRow w (some ⟨g2, 0, none⟩) n2 c2 (enc K)) (r3 : BRow w (some ⟨g3, 0, none⟩) n3 c3 (enc F)) (r4 : BRow w (some ⟨g4, 0, none⟩) n4 c4 (enc G)) (rb : BRow w (some ⟨gb, 0, none⟩) nb cb bl)
    (hl : ([84, 75] ++ bytesOf [I, K, F, G] ++ bl).length ≤ 100000) :
    Calls Tryz.prog 21 #[.slice (some ⟨w.heap.size, 0, none⟩) 6 6] (w.alloc (.cells #[.slice (some ⟨gm, 0, none⟩) 2 2, .slice (some ⟨g1, 0, none⟩) n1 c1, .slice (some ⟨g2, 0, none⟩) n2 c2, .slice (some ⟨g3, 0, none⟩) n3 c3, .slice (some ⟨g4, 0, none⟩) n4 c4, .slice (some ⟨gb, 0, none⟩) nb cb] 26))
      fun e w' => ∃ v, e = .returned v ∧ w'.ownsRow w.heap.size 5 1 v ([84, 75] ++ bytesOf [I, K, F, G] ++ bl).length (bytesV ([84, 75] ++ bytesOf [I, K, F, G] ++ bl)) ∧ Below w.heap.size w w' := by
  obtain ⟨rs, hrs⟩ : ∃ rs : Nat → Nat × Nat × Nat × List Nat, rs = fun j => match j with | 0 => (gm, 2, 2, [84, 75]) | 1 => (g1, n1, c1, enc I) | 2 => (g2, n2, c2, enc K) | 3 => (g3, n3, c3, enc F) | 4 => (g4, n4, c4, enc G) | _ => (gb, nb, cb, bl) := ⟨_, rfl⟩
  have hcat : catN (fun j => (rs j).2.2.2) 6 = [84, 75] ++ bytesOf [I, K, F, G] ++ bl := by
    rw [hrs]
    simp [catN, bytesOf]
  have h := concatB_any (g := w.heap.size) (c := 6) (k := 6) (n := ([84, 75] ++ bytesOf [I, K, F, G] ++ bl).length) (A := fun j => some ⟨(rs j).1, 0, none⟩) (N := fun j => (rs j).2.1) (C := fun j => (rs j).2.2.1) (D := fun j => (rs j).2.2.2)
    (w := w.alloc (.cells #[.slice (some ⟨gm, 0, none⟩) 2 2, .slice (some ⟨g1, 0, none⟩) n1 c1, .slice (some ⟨g2, 0, none⟩) n2 c2, .slice (some ⟨g3, 0, none⟩) n3 c3, .slice (some ⟨g4, 0, none⟩) n4 c4, .slice (some ⟨gb, 0, none⟩) nb cb] 26))
    (fun j hj => by
      rw [hrs]
      match j, hj with
      | 0, _ => exact r0.below (below_box _ _)
      | 1, _ => exact r1.below (below_box _ _)
      | 2, _ => exact r2.below (below_box _ _)
      | 3, _ => exact r3.below (below_box _ _)
      | 4, _ => exact r4.below (below_box _ _)
      | 5, _ => exact rb.below (below_box _ _))
    (fun j hj => by
      rw [hrs]
      match j, hj with
      | 0, _ => simp
      | 1, _ => simp
      | 2, _ => simp
      | 3, _ => simp
      | 4, _ => simp
      | 5, _ => simp) (Nat.le_refl _) (by omega) (by rw [hcat]) (by simp) hl
  refine h.mono ?_
  rintro e w' ⟨v, rfl, hown, hb⟩
  rw [hcat] at hown
  exact ⟨v, rfl, own_le hown (by simp), past (below_box _ _) hb⟩

set_option maxHeartbeats 1000000 in
theorem blockOf_any {i k f t : Int} {n m ca cb : Nat} {A B : Option Addr} {sm : List (Int × Int)} {ag : List Ag} {w : World} (h : SegAt w ⟨i, k, f, t, sm, ag⟩ A n ca B m cb) (hw : Wid w) (hm : Sg.may ⟨i, k, f, t, sm, ag⟩) :
    Calls Tryz.prog 20 #[.agg #[.int .i64 i, .int .i64 k, .int .i64 f, .int .i64 t, .slice A n ca, .slice B m cb]] w (PutBPost w (Sg.block ⟨i, k, f, t, sm, ag⟩)) := by
  have hh := hm.2.2.2
  by_cases h0 : k = 0
  · obtain ⟨e1, e2, _⟩ := has_zero hh h.ok h0
    rw [e1]
    simp only at e2 ⊢
    have m1 := fun w' (h' : Below w.heap.size w w') => kput_any h.sn (h.sm.below h').samps (by rw [← h.sn]; exact h.sm.le) h.sm.max e2.1
    have M1 := Lib.hid m1
    have h0' : (k == 0) = true := by simp [h0]
    clear m1 h hw hm hh e1 e2 h0
    go_enter Tryz.func20, Tryz.ntmps20
    go_wp2_with fail
    refine (M1.out _ (below_box _ _)).mono ?_
    rintro e w2 ⟨g, cap, rfl, hown, hb⟩
    have HO := Lib.hid hown
    have HB := Lib.hid (past (below_box _ _) hb)
    clear hown hb M1
    go_wp2
    (try simp only [Exit.inBlock, Exit.then])
    go_ret2
    exact ⟨g, cap, rfl, own_le HO.out (by simp), HB.out⟩
  · obtain ⟨e1, e2, _⟩ := has_more hh h.ok h0
    rw [e1]
    simp only at e2 ⊢
    have m1 := fun w' (h' : Below w.heap.size w w') => kputa_any k h.ag.1 (h.below h').ag.2.1 h.ag.2.2.1 h.ag.2.2.2.1 (hw.below h') e2.1
    have M1 := Lib.hid m1
    have h0' : (k == 0) = false := by simp [h0]
    clear m1 h hw hm hh e1 e2 h0
    go_enter Tryz.func20, Tryz.ntmps20
    go_wp2_with fail
    refine (M1.out _ (below_box _ _)).mono ?_
    rintro e w2 ⟨g, cap, rfl, hown, hb⟩
    have HO := Lib.hid hown
    have HB := Lib.hid (past (below_box _ _) hb)
    clear hown hb M1
    go_wp2
    (try simp only [Exit.inBlock, Exit.then])
    go_ret2
    exact ⟨g, cap, rfl, own_le HO.out (by simp), HB.out⟩

/-- What Put returns. -/
def PutG (w : World) (s : Sg) (e : Ending) (w' : World) : Prop :=
  (if s.may then if s.bytes.length ≤ 4000 then ∃ v, e = .returned (.tuple #[v, .int .i64 0]) ∧ w'.ownsRow w.heap.size 5 1 v s.bytes.length (bytesV s.bytes) else e = .returned (.tuple #[.slice none 0 0, .int .i64 8])
    else e = .returned (.tuple #[.slice none 0 0, .int .i64 1])) ∧ Below w.heap.size w w'

set_option maxHeartbeats 2000000 in
theorem putG_any {i k f t : Int} {n m ca cb : Nat} {A B : Option Addr} {sm : List (Int × Int)} {ag : List Ag} {w : World} (h : SegAt w ⟨i, k, f, t, sm, ag⟩ A n ca B m cb) (hw : Wid w) :
    Calls Tryz.prog 6 #[.agg #[.int .i64 i, .int .i64 k, .int .i64 f, .int .i64 t, .slice A n ca, .slice B m cb]] w (PutG w ⟨i, k, f, t, sm, ag⟩) := by
  have m1 := fun w' (h' : Below w.heap.size w w') => mayG_any (h.below h') (hw.below h')
  by_cases hm : Sg.may ⟨i, k, f, t, sm, ag⟩
  · rw [decide_eq_true hm] at m1
    have m2 := fun w' (h' : Below w.heap.size w w') => blockOf_any (h.below h') (hw.below h') hm
    have hok := h.ok
    have M1 := Lib.hid m1
    have M2 := Lib.hid m2
    obtain ⟨bl, hbl⟩ : ∃ bl, bl = Sg.block ⟨i, k, f, t, sm, ag⟩ := ⟨_, rfl⟩
    rw [← hbl] at M2
    obtain ⟨⟨a1, a2⟩, ⟨a3, a4⟩, ⟨a5, a6, a7⟩, a8⟩ := id hm
    simp only at a1 a2 a3 a4 a5 a6 a7
    obtain ⟨I, rfl⟩ := Int.eq_ofNat_of_zero_le (show 0 ≤ i by omega)
    obtain ⟨K, rfl⟩ := Int.eq_ofNat_of_zero_le a3
    obtain ⟨F, rfl⟩ := Int.eq_ofNat_of_zero_le a5
    obtain ⟨T, rfl⟩ := Int.eq_ofNat_of_zero_le (show 0 ≤ t by omega)
    have j1 : IntKind.u64.wrap (I : Int) = (I : Int) := by rw [IntKind.wrap_u64]; omega
    have j2 : IntKind.u64.wrap (K : Int) = (K : Int) := by rw [IntKind.wrap_u64]; omega
    have j3 : IntKind.u64.wrap (F : Int) = (F : Int) := by rw [IntKind.wrap_u64]; omega
    obtain ⟨G, hG⟩ : ∃ G : Nat, G = T - F := ⟨_, rfl⟩
    have j4 : IntKind.i64.wrap ((T : Int) - (F : Int)) = (G : Int) := by rw [IntKind.wrap_i64]; omega
    have j5 : IntKind.u64.wrap (G : Int) = (G : Int) := by rw [IntKind.wrap_u64]; omega
    have p1 := fun u => put_any I u (by omega)
    have p2 := fun u => put_any K u (by omega)
    have p3 := fun u => put_any F u (by omega)
    have p4 := fun u => put_any G u (by omega)
    have P1 := Lib.hid p1
    have P2 := Lib.hid p2
    have P3 := Lib.hid p3
    have P4 := Lib.hid p4
    have HM := Lib.hid hm
    have HOK := Lib.hid hok
    have HBL := Lib.hid hbl
    have HG : Hid (G = T - F ∧ F < T) := Lib.hid ⟨hG, by omega⟩
    have HBIG : Hid (([84, 75] ++ bytesOf [I, K, F, G] ++ bl).length ≤ 10000) := Lib.hid (by
      have h1 := bytesOf_ten [I, K, F, G] (by intro n hn; simp only [List.mem_cons, List.not_mem_nil, or_false] at hn; omega)
      have h2 := block_len hm hok
      rw [← hbl] at h2
      rw [List.length_append, List.length_append]
      simp only [List.length_cons, List.length_nil] at h1 ⊢
      omega)
    clear m1 m2 h hw hm hok hbl a1 a2 a3 a4 a5 a6 a7 a8 p1 p2 p3 p4 hG
    go_enter Tryz.func6, Tryz.ntmps6
    go_wp2_with fail
    refine (M1.out _ (below_box _ _)).mono ?_
    rintro e w2 ⟨rfl, hb⟩
    obtain ⟨c0, c1, c2, c3, c4, c5, _, _, _, _, _, _⟩ := (SgV.new w (I : Int) (K : Int) (F : Int) (T : Int) (.slice A n ca) (.slice B m cb) 25).below hb
    have HV := Lib.hid ((SgV.new w (I : Int) (K : Int) (F : Int) (T : Int) (.slice A n ca) (.slice B m cb) 25).below hb)
    have HB := Lib.hid (past (below_box _ _) hb)
    clear hb
    go_wp2_with fail
    refine (M2.out _ HB.out).mono ?_
    rintro e w3 ⟨gb, capb, rfl, hown, hb⟩
    have HRB : Hid (BRow w3 (some ⟨gb, 0, none⟩) bl.length capb bl) := Lib.hid (by
      obtain ⟨s1, s2, s3, s4, s5, s6⟩ := Bytes.own hown (by rw [HBL.out]; exact block_byte _)
      exact ⟨s1, s2, s3, s4, fun e => by cases e⟩)
    have HB3 := Lib.hid (past HB.out hb)
    have HST : Hid (∀ u, Below w3.heap.size w3 u → u.cell? ⟨w.heap.size, 0, none⟩ = some (.int .i64 (I : Int)) ∧ u.cell? ⟨w.heap.size, 1, none⟩ = some (.int .i64 (K : Int)) ∧ u.cell? ⟨w.heap.size, 2, none⟩ = some (.int .i64 (F : Int)) ∧ u.cell? ⟨w.heap.size, 3, none⟩ = some (.int .i64 (T : Int))) := Lib.hid (fun u hu => by
      obtain ⟨d0, d1, d2, d3, _, _, _, _, _, _, _, _⟩ := (HV.out.below hb).below hu
      exact ⟨d0, d1, d2, d3⟩)
    clear hown hb c0 c1 c2 c3 c4 c5 M1 M2 HV
    obtain ⟨c0, c1, c2, c3⟩ := HST.out _ (Below.refl _ _)
    have hsz0 : w3.heap.size ≤ (w3.drewN 1).heap.size := Nat.le_refl _
    have kc : ∀ X : World, (convert 26 26 (.slice (some ⟨X.heap.size, 0, none⟩) 2 2)).run Tryz.prog (X.alloc (.cells #[.int .u8 84, .int .u8 75] 5)) = .ok (.slice (some ⟨X.heap.size, 0, none⟩) 2 2) ((X.alloc (.cells #[.int .u8 84, .int .u8 75] 5)).freeze ⟨X.heap.size, 2, none⟩ 1) := fun X => conv_at (fr := (0, 0)) 2 2 (lit_block X _)
    have kc0 : (convert 26 26 (.slice (some ⟨w3.heap.size, 0, none⟩) 2 2)).run Tryz.prog (w3.alloc (.cells #[.int .u8 84, .int .u8 75] 5)).drew = .ok (.slice (some ⟨w3.heap.size, 0, none⟩) 2 2) (((w3.drewN 1).alloc (.cells #[.int .u8 84, .int .u8 75] 5)).freeze ⟨w3.heap.size, 2, none⟩ 1) := kc (w3.drewN 1)
    have MC : Hid (∀ (u : World) (gm g1 cap1 g2 cap2 g3 cap3 g4 cap4 : Nat), On w3.heap.size w3 u → BRow u (some ⟨gm, 0, none⟩) 2 2 [84, 75] → BRow u (some ⟨g1, 0, none⟩) (enc I).length cap1 (enc I) → BRow u (some ⟨g2, 0, none⟩) (enc K).length cap2 (enc K) → BRow u (some ⟨g3, 0, none⟩) (enc F).length cap3 (enc F) → BRow u (some ⟨g4, 0, none⟩) (enc G).length cap4 (enc G) →
        Calls Tryz.prog 21 #[.slice (some ⟨u.heap.size, 0, none⟩) 6 6] (u.alloc (.cells #[.slice (some ⟨gm, 0, none⟩) 2 2, .slice (some ⟨g1, 0, none⟩) (enc I).length cap1, .slice (some ⟨g2, 0, none⟩) (enc K).length cap2, .slice (some ⟨g3, 0, none⟩) (enc F).length cap3, .slice (some ⟨g4, 0, none⟩) (enc G).length cap4, .slice (some ⟨gb, 0, none⟩) bl.length capb] 26))
          fun e w' => ∃ v, e = .returned v ∧ w'.ownsRow w.heap.size 5 1 v ([84, 75] ++ bytesOf [I, K, F, G] ++ bl).length (bytesV ([84, 75] ++ bytesOf [I, K, F, G] ++ bl)) ∧ On w3.heap.size w3 w') := Lib.hid (fun u gm g1 cap1 g2 cap2 g3 cap3 g4 cap4 hu r0 r1 r2 r3 r4 => by
      refine (concat_six r0 r1 r2 r3 r4 (HRB.out.on hu) (Nat.le_trans HBIG.out (by omega))).mono ?_
      rintro e w' ⟨v, rfl, hown, hb⟩
      exact ⟨v, rfl, own_le hown (Nat.le_trans HB3.out.size hu.below.size), On.call_ hb hu⟩)
    have onA : On w3.heap.size ((w3.drewN 1).alloc (.cells #[.int .u8 84, .int .u8 75] 5)) (w3.alloc (.cells #[.int .u8 84, .int .u8 75] 5)).drew := On.refl ((w3.drewN 1).alloc (.cells #[.int .u8 84, .int .u8 75] 5)) (by simp)
    have lit0 : (w3.alloc (.cells #[.int .u8 84, .int .u8 75] 5)).drew.heap[w3.heap.size]? = some (.cells #[.int .u8 84, .int .u8 75] 5) := lit_block (w3.drewN 1) _
    go_upto_region 6 with fail
    go_cut [6] (fun s6 wx => ∃ v, s6 = v ∧ Hid (wx.ownsRow w.heap.size 5 1 v ([84, 75] ++ bytesOf [I, K, F, G] ++ bl).length (bytesV ([84, 75] ++ bytesOf [I, K, F, G] ++ bl)) ∧ On w3.heap.size w3 wx))
    case first =>
      go_region_held (fun w' => w'.cell? ⟨w.heap.size, 0, none⟩ = some (.int .i64 (I : Int)) ∧ w'.cell? ⟨w.heap.size, 1, none⟩ = some (.int .i64 (K : Int)) ∧ w'.cell? ⟨w.heap.size, 2, none⟩ = some (.int .i64 (F : Int)) ∧ w'.cell? ⟨w.heap.size, 3, none⟩ = some (.int .i64 (T : Int)))
        (first
          | exact HST.out _ hbV.below
          | (refine HST.out _ (On.below (B := w3.heap.size) (a := w3) ?_); (repeat (first | with_reducible exact onA | with_reducible exact On.refl _ (by first | exact Nat.le_refl _ | omega | (simp; done) | (simp; omega)) | with_reducible refine On.alloc_ ?_ | with_reducible refine On.freeze_ (by first | omega | (dsimp only; omega)) ?_ | with_reducible refine On.call_ hb4 ?_ | with_reducible refine On.call_ hb3 ?_ | with_reducible refine On.call_ hb2 ?_ | with_reducible refine On.call_ hb1 ?_ | with_reducible refine On.drew1_ ?_ | with_reducible refine On.drew_ ?_)); done))
        (first
          | (go_at_call_of 22 (Value.int .u64 (I : Int)); refine (P1.out _).mono ?_; rintro e wt1 ⟨g1, cap1, rfl, hown1, hb1⟩; have s1 : w3.heap.size ≤ wt1.heap.size := (show On w3.heap.size w3 wt1 from by (repeat (first | with_reducible exact onA | with_reducible exact On.refl _ (by first | exact Nat.le_refl _ | omega | (simp; done) | (simp; omega)) | with_reducible refine On.alloc_ ?_ | with_reducible refine On.freeze_ (by first | omega | (dsimp only; omega)) ?_ | with_reducible refine On.call_ hb4 ?_ | with_reducible refine On.call_ hb3 ?_ | with_reducible refine On.call_ hb2 ?_ | with_reducible refine On.call_ hb1 ?_ | with_reducible refine On.drew1_ ?_ | with_reducible refine On.drew_ ?_))).below.size; (try (refine (fun (kb10 : wt1.heap[w3.heap.size]? = some (.cells #[.int .u8 84, .int .u8 75] 5)) => ?_) ?_; rotate_left; (focus (((repeat (first | with_reducible exact lit_block _ _ | with_reducible refine block_on hb1 ?_ | exact lit0)); done))); have kc10 := conv_at (fr := (0, 0)) 2 2 kb10; simp only [List.size_toArray, List.length_cons, List.length_nil, Nat.zero_add, Nat.reduceAdd] at kc10)))
          | (go_at_call_of 22 (Value.int .u64 (K : Int)); refine (P2.out _).mono ?_; rintro e wt2 ⟨g2, cap2, rfl, hown2, hb2⟩; have s2 : w3.heap.size ≤ wt2.heap.size := (show On w3.heap.size w3 wt2 from by (repeat (first | with_reducible exact onA | with_reducible exact On.refl _ (by first | exact Nat.le_refl _ | omega | (simp; done) | (simp; omega)) | with_reducible refine On.alloc_ ?_ | with_reducible refine On.freeze_ (by first | omega | (dsimp only; omega)) ?_ | with_reducible refine On.call_ hb4 ?_ | with_reducible refine On.call_ hb3 ?_ | with_reducible refine On.call_ hb2 ?_ | with_reducible refine On.call_ hb1 ?_ | with_reducible refine On.drew1_ ?_ | with_reducible refine On.drew_ ?_))).below.size; (try (refine (fun (kb20 : wt2.heap[w3.heap.size]? = some (.cells #[.int .u8 84, .int .u8 75] 5)) => ?_) ?_; rotate_left; (focus (((repeat (first | with_reducible exact lit_block _ _ | with_reducible refine block_on hb2 ?_ | with_reducible refine block_on hb1 ?_ | exact lit0)); done))); have kc20 := conv_at (fr := (0, 0)) 2 2 kb20; simp only [List.size_toArray, List.length_cons, List.length_nil, Nat.zero_add, Nat.reduceAdd] at kc20)); (try (refine (fun (kb21 : wt2.heap[wt1.heap.size]? = some (.cells #[.int .u8 84, .int .u8 75] 5)) => ?_) ?_; rotate_left; (focus (((repeat (first | with_reducible exact lit_block _ _ | with_reducible refine block_on hb2 ?_)); done))); have kc21 := conv_at (fr := (0, 0)) 2 2 kb21; simp only [List.size_toArray, List.length_cons, List.length_nil, Nat.zero_add, Nat.reduceAdd] at kc21)))
          | (go_at_call_of 22 (Value.int .u64 (F : Int)); refine (P3.out _).mono ?_; rintro e wt3 ⟨g3, cap3, rfl, hown3, hb3⟩; have s3 : w3.heap.size ≤ wt3.heap.size := (show On w3.heap.size w3 wt3 from by (repeat (first | with_reducible exact onA | with_reducible exact On.refl _ (by first | exact Nat.le_refl _ | omega | (simp; done) | (simp; omega)) | with_reducible refine On.alloc_ ?_ | with_reducible refine On.freeze_ (by first | omega | (dsimp only; omega)) ?_ | with_reducible refine On.call_ hb4 ?_ | with_reducible refine On.call_ hb3 ?_ | with_reducible refine On.call_ hb2 ?_ | with_reducible refine On.call_ hb1 ?_ | with_reducible refine On.drew1_ ?_ | with_reducible refine On.drew_ ?_))).below.size; (try (refine (fun (kb30 : wt3.heap[w3.heap.size]? = some (.cells #[.int .u8 84, .int .u8 75] 5)) => ?_) ?_; rotate_left; (focus (((repeat (first | with_reducible exact lit_block _ _ | with_reducible refine block_on hb3 ?_ | with_reducible refine block_on hb2 ?_ | with_reducible refine block_on hb1 ?_ | exact lit0)); done))); have kc30 := conv_at (fr := (0, 0)) 2 2 kb30; simp only [List.size_toArray, List.length_cons, List.length_nil, Nat.zero_add, Nat.reduceAdd] at kc30)); (try (refine (fun (kb31 : wt3.heap[wt1.heap.size]? = some (.cells #[.int .u8 84, .int .u8 75] 5)) => ?_) ?_; rotate_left; (focus (((repeat (first | with_reducible exact lit_block _ _ | with_reducible refine block_on hb3 ?_ | with_reducible refine block_on hb2 ?_)); done))); have kc31 := conv_at (fr := (0, 0)) 2 2 kb31; simp only [List.size_toArray, List.length_cons, List.length_nil, Nat.zero_add, Nat.reduceAdd] at kc31)); (try (refine (fun (kb32 : wt3.heap[wt2.heap.size]? = some (.cells #[.int .u8 84, .int .u8 75] 5)) => ?_) ?_; rotate_left; (focus (((repeat (first | with_reducible exact lit_block _ _ | with_reducible refine block_on hb3 ?_)); done))); have kc32 := conv_at (fr := (0, 0)) 2 2 kb32; simp only [List.size_toArray, List.length_cons, List.length_nil, Nat.zero_add, Nat.reduceAdd] at kc32)))
          | (go_at_call_of 22 (Value.int .u64 (G : Int)); refine (P4.out _).mono ?_; rintro e wt4 ⟨g4, cap4, rfl, hown4, hb4⟩; have s4 : w3.heap.size ≤ wt4.heap.size := (show On w3.heap.size w3 wt4 from by (repeat (first | with_reducible exact onA | with_reducible exact On.refl _ (by first | exact Nat.le_refl _ | omega | (simp; done) | (simp; omega)) | with_reducible refine On.alloc_ ?_ | with_reducible refine On.freeze_ (by first | omega | (dsimp only; omega)) ?_ | with_reducible refine On.call_ hb4 ?_ | with_reducible refine On.call_ hb3 ?_ | with_reducible refine On.call_ hb2 ?_ | with_reducible refine On.call_ hb1 ?_ | with_reducible refine On.drew1_ ?_ | with_reducible refine On.drew_ ?_))).below.size; (try (refine (fun (kb40 : wt4.heap[w3.heap.size]? = some (.cells #[.int .u8 84, .int .u8 75] 5)) => ?_) ?_; rotate_left; (focus (((repeat (first | with_reducible exact lit_block _ _ | with_reducible refine block_on hb4 ?_ | with_reducible refine block_on hb3 ?_ | with_reducible refine block_on hb2 ?_ | with_reducible refine block_on hb1 ?_ | exact lit0)); done))); have kc40 := conv_at (fr := (0, 0)) 2 2 kb40; simp only [List.size_toArray, List.length_cons, List.length_nil, Nat.zero_add, Nat.reduceAdd] at kc40)); (try (refine (fun (kb41 : wt4.heap[wt1.heap.size]? = some (.cells #[.int .u8 84, .int .u8 75] 5)) => ?_) ?_; rotate_left; (focus (((repeat (first | with_reducible exact lit_block _ _ | with_reducible refine block_on hb4 ?_ | with_reducible refine block_on hb3 ?_ | with_reducible refine block_on hb2 ?_)); done))); have kc41 := conv_at (fr := (0, 0)) 2 2 kb41; simp only [List.size_toArray, List.length_cons, List.length_nil, Nat.zero_add, Nat.reduceAdd] at kc41)); (try (refine (fun (kb42 : wt4.heap[wt2.heap.size]? = some (.cells #[.int .u8 84, .int .u8 75] 5)) => ?_) ?_; rotate_left; (focus (((repeat (first | with_reducible exact lit_block _ _ | with_reducible refine block_on hb4 ?_ | with_reducible refine block_on hb3 ?_)); done))); have kc42 := conv_at (fr := (0, 0)) 2 2 kb42; simp only [List.size_toArray, List.length_cons, List.length_nil, Nat.zero_add, Nat.reduceAdd] at kc42)); (try (refine (fun (kb43 : wt4.heap[wt3.heap.size]? = some (.cells #[.int .u8 84, .int .u8 75] 5)) => ?_) ?_; rotate_left; (focus (((repeat (first | with_reducible exact lit_block _ _ | with_reducible refine block_on hb4 ?_)); done))); have kc43 := conv_at (fr := (0, 0)) 2 2 kb43; simp only [List.size_toArray, List.length_cons, List.length_nil, Nat.zero_add, Nat.reduceAdd] at kc43)))
          | (go_at_call 21; refine (MC.out _ _ _ _ _ _ _ _ _ _ (by (repeat (first | with_reducible exact onA | with_reducible exact On.refl _ (by first | exact Nat.le_refl _ | omega | (simp; done) | (simp; omega)) | with_reducible refine On.alloc_ ?_ | with_reducible refine On.freeze_ (by first | omega | (dsimp only; omega)) ?_ | with_reducible refine On.call_ hb4 ?_ | with_reducible refine On.call_ hb3 ?_ | with_reducible refine On.call_ hb2 ?_ | with_reducible refine On.call_ hb1 ?_ | with_reducible refine On.drew1_ ?_ | with_reducible refine On.drew_ ?_))) (by first | exact (BRow.lit (w3.drewN 1)).on (B := w3.heap.size) (by (repeat (first | with_reducible exact onA | with_reducible exact On.refl _ (by first | exact Nat.le_refl _ | omega | (simp; done) | (simp; omega)) | with_reducible refine On.alloc_ ?_ | with_reducible refine On.freeze_ (by first | omega | (dsimp only; omega)) ?_ | with_reducible refine On.call_ hb4 ?_ | with_reducible refine On.call_ hb3 ?_ | with_reducible refine On.call_ hb2 ?_ | with_reducible refine On.call_ hb1 ?_ | with_reducible refine On.drew1_ ?_ | with_reducible refine On.drew_ ?_))) | exact (BRow.lit wt1).on (B := w3.heap.size) (by (repeat (first | with_reducible exact onA | with_reducible exact On.refl _ (by first | exact Nat.le_refl _ | omega | (simp; done) | (simp; omega)) | with_reducible refine On.alloc_ ?_ | with_reducible refine On.freeze_ (by first | omega | (dsimp only; omega)) ?_ | with_reducible refine On.call_ hb4 ?_ | with_reducible refine On.call_ hb3 ?_ | with_reducible refine On.call_ hb2 ?_ | with_reducible refine On.call_ hb1 ?_ | with_reducible refine On.drew1_ ?_ | with_reducible refine On.drew_ ?_))) | exact (BRow.lit wt2).on (B := w3.heap.size) (by (repeat (first | with_reducible exact onA | with_reducible exact On.refl _ (by first | exact Nat.le_refl _ | omega | (simp; done) | (simp; omega)) | with_reducible refine On.alloc_ ?_ | with_reducible refine On.freeze_ (by first | omega | (dsimp only; omega)) ?_ | with_reducible refine On.call_ hb4 ?_ | with_reducible refine On.call_ hb3 ?_ | with_reducible refine On.call_ hb2 ?_ | with_reducible refine On.call_ hb1 ?_ | with_reducible refine On.drew1_ ?_ | with_reducible refine On.drew_ ?_))) | exact (BRow.lit wt3).on (B := w3.heap.size) (by (repeat (first | with_reducible exact onA | with_reducible exact On.refl _ (by first | exact Nat.le_refl _ | omega | (simp; done) | (simp; omega)) | with_reducible refine On.alloc_ ?_ | with_reducible refine On.freeze_ (by first | omega | (dsimp only; omega)) ?_ | with_reducible refine On.call_ hb4 ?_ | with_reducible refine On.call_ hb3 ?_ | with_reducible refine On.call_ hb2 ?_ | with_reducible refine On.call_ hb1 ?_ | with_reducible refine On.drew1_ ?_ | with_reducible refine On.drew_ ?_))) | exact (BRow.lit wt4).on (B := w3.heap.size) (by (repeat (first | with_reducible exact onA | with_reducible exact On.refl _ (by first | exact Nat.le_refl _ | omega | (simp; done) | (simp; omega)) | with_reducible refine On.alloc_ ?_ | with_reducible refine On.freeze_ (by first | omega | (dsimp only; omega)) ?_ | with_reducible refine On.call_ hb4 ?_ | with_reducible refine On.call_ hb3 ?_ | with_reducible refine On.call_ hb2 ?_ | with_reducible refine On.call_ hb1 ?_ | with_reducible refine On.drew1_ ?_ | with_reducible refine On.drew_ ?_)))) ((BRow.of_own hown1 (enc_byte _)).on (B := w3.heap.size) (by (repeat (first | with_reducible exact onA | with_reducible exact On.refl _ (by first | exact Nat.le_refl _ | omega | (simp; done) | (simp; omega)) | with_reducible refine On.alloc_ ?_ | with_reducible refine On.freeze_ (by first | omega | (dsimp only; omega)) ?_ | with_reducible refine On.call_ hb4 ?_ | with_reducible refine On.call_ hb3 ?_ | with_reducible refine On.call_ hb2 ?_ | with_reducible refine On.call_ hb1 ?_ | with_reducible refine On.drew1_ ?_ | with_reducible refine On.drew_ ?_)))) ((BRow.of_own hown2 (enc_byte _)).on (B := w3.heap.size) (by (repeat (first | with_reducible exact onA | with_reducible exact On.refl _ (by first | exact Nat.le_refl _ | omega | (simp; done) | (simp; omega)) | with_reducible refine On.alloc_ ?_ | with_reducible refine On.freeze_ (by first | omega | (dsimp only; omega)) ?_ | with_reducible refine On.call_ hb4 ?_ | with_reducible refine On.call_ hb3 ?_ | with_reducible refine On.call_ hb2 ?_ | with_reducible refine On.call_ hb1 ?_ | with_reducible refine On.drew1_ ?_ | with_reducible refine On.drew_ ?_)))) ((BRow.of_own hown3 (enc_byte _)).on (B := w3.heap.size) (by (repeat (first | with_reducible exact onA | with_reducible exact On.refl _ (by first | exact Nat.le_refl _ | omega | (simp; done) | (simp; omega)) | with_reducible refine On.alloc_ ?_ | with_reducible refine On.freeze_ (by first | omega | (dsimp only; omega)) ?_ | with_reducible refine On.call_ hb4 ?_ | with_reducible refine On.call_ hb3 ?_ | with_reducible refine On.call_ hb2 ?_ | with_reducible refine On.call_ hb1 ?_ | with_reducible refine On.drew1_ ?_ | with_reducible refine On.drew_ ?_)))) ((BRow.of_own hown4 (enc_byte _)).on (B := w3.heap.size) (by (repeat (first | with_reducible exact onA | with_reducible exact On.refl _ (by first | exact Nat.le_refl _ | omega | (simp; done) | (simp; omega)) | with_reducible refine On.alloc_ ?_ | with_reducible refine On.freeze_ (by first | omega | (dsimp only; omega)) ?_ | with_reducible refine On.call_ hb4 ?_ | with_reducible refine On.call_ hb3 ?_ | with_reducible refine On.call_ hb2 ?_ | with_reducible refine On.call_ hb1 ?_ | with_reducible refine On.drew1_ ?_ | with_reducible refine On.drew_ ?_))))).mono ?_; rintro e wt ⟨v, rfl, hownV, hbV⟩))
      all_goals (go_wp2_with fail; go_meet; exact ⟨_, rfl, Lib.hid ⟨hownV, hbV⟩⟩)
    case rest =>
      obtain ⟨v, rfl, HV⟩ := hcut
      have hownV := HV.out.1
      have hbV := HV.out.2.below
      clear HV onA lit0 kc kc0 hsz0
      obtain ⟨D, hD⟩ : ∃ D, D = [84, 75] ++ bytesOf [I, K, F, G] ++ bl := ⟨_, rfl⟩
      rw [← hD] at hownV
      have hDb : ∀ c ∈ D, c < 256 := by
        rw [hD]
        intro c hc
        rw [List.mem_append, List.mem_append] at hc
        rcases hc with (hc | hc) | hc
        · simp only [List.mem_cons, List.not_mem_nil, or_false] at hc; omega
        · exact bytesOf_byte _ c hc
        · rw [HBL.out] at hc; exact block_byte _ c hc
      obtain ⟨AV, cV, rfl, hrV, hfV⟩ := brow_of_own hownV hDb
      have hBV : Below w.heap.size w wc := past HB3.out hbV
      have m5 := sumB_any hrV
      have M5 := Lib.hid m5
      have HOV := Lib.hid hownV
      have HBV := Lib.hid hBV
      have HDL : Hid (D.length ≤ 90000) := Lib.hid (by rw [hD]; have := HBIG.out; omega)
      have HBY : Hid (D ++ four (more 1 D) = Sg.bytes ⟨(I : Int), (K : Int), (F : Int), (T : Int), sm, ag⟩) := Lib.hid (by
        have hg := HG.out
        unfold Sg.bytes Sg.body
        rw [hD, HBL.out]
        simp only [Int.toNat_natCast]
        rw [show ((T : Int) - (F : Int)).toNat = G by omega])
      have HP1 : Hid (∀ v w', w'.ownsRow w.heap.size 5 1 v (D.length + 4) (bytesV (D ++ four (more 1 D))) → Below w.heap.size w w' → D.length + 4 ≤ 4000 → PutG w ⟨(I : Int), (K : Int), (F : Int), (T : Int), sm, ag⟩ (.returned (.tuple #[v, .int .i64 0])) w') := Lib.hid (fun v w' ho hb hl => by
        have e : (Sg.bytes ⟨(I : Int), (K : Int), (F : Int), (T : Int), sm, ag⟩).length = D.length + 4 := by rw [← HBY.out, List.length_append, four_len]
        refine ⟨?_, hb⟩
        rw [if_pos HM.out, if_pos (by omega), e, ← HBY.out]
        exact ⟨v, rfl, ho⟩)
      have HP2 : Hid (∀ w', Below w.heap.size w w' → ¬ (D.length + 4 ≤ 4000) → PutG w ⟨(I : Int), (K : Int), (F : Int), (T : Int), sm, ag⟩ (.returned (.tuple #[.slice none 0 0, .int .i64 8])) w') := Lib.hid (fun w' hb hl => by
        have e : (Sg.bytes ⟨(I : Int), (K : Int), (F : Int), (T : Int), sm, ag⟩).length = D.length + 4 := by rw [← HBY.out, List.length_append, four_len]
        refine ⟨?_, hb⟩
        rw [if_pos HM.out, if_neg (by omega)])
      clear hD hDb hownV hrV hfV hbV hBV m5 MC HBIG HBL HST c0 c1 c2 c3 P1 P2 P3 P4 HM HOK HG HB3 HB HRB j1 j2 j3 j4 j5
      go_wp2_with fail
      refine M5.out.mono ?_
      rintro e w5 ⟨gs, rfl, hown, hb⟩
      have HO5 := Lib.hid (own_on HOV.out hb)
      have HR5 := Lib.hid (BRow.of_own hown (four_byte _))
      have HB5 := Lib.hid (past HBV.out hb)
      clear hown hb M5
      go_wp2_with (at_builtin; refine wpList_append_brow rfl _ _ rfl w.heap.size _ D.length 4 D (four (more 1 D)) rfl HO5.out _ _ rfl HR5.out (by have := HDL.out; omega) HB5.out.size ?_)
      intro v6 w6 hown hgrow
      have HB6 : Hid (Below w.heap.size w w6) := Lib.hid (HB5.out.grown hgrow HB5.out.size (fun k h => (HO5.out.lt k h).1))
      obtain ⟨A6, c6, hv6, hr6, _⟩ := brow_of_own hown (by
        intro c hc
        rw [HBY.out] at hc
        exact bytes_byte _ c hc)
      subst hv6
      have HO6 := Lib.hid hown
      clear hown hgrow hr6 HO5 HR5 HB5 HOV HBV
      have HDL2 := HDL.out
      generalize D.length = LD at *
      clear HBY HDL
      by_cases hq : LD + 4 ≤ 4000
      · have HF := Lib.hid (HP1.out _ _ HO6.out HB6.out hq)
        have q1 : ¬ ((4000 : Int) < ((LD + 4 : Nat) : Int)) := by omega
        clear HP1 HP2 HO6 HB6
        go_wp2
        go_ret2
        exact HF.out
      · have HF := Lib.hid (HP2.out _ HB6.out hq)
        have q1 : ((4000 : Int) < ((LD + 4 : Nat) : Int)) := by omega
        clear HP1 HP2 HO6 HB6
        go_wp2
        (try simp only [Exit.inBlock, Exit.then])
        go_ret2
        exact HF.out
  · rw [decide_eq_false hm] at m1
    have HP : Hid (∀ w', Below w.heap.size w w' → PutG w ⟨i, k, f, t, sm, ag⟩ (.returned (.tuple #[.slice none 0 0, .int .i64 1])) w') := Lib.hid (fun w' hb => ⟨by rw [if_neg hm], hb⟩)
    have M1 := Lib.hid m1
    clear m1 h hw hm
    go_enter Tryz.func6, Tryz.ntmps6
    go_wp2_with fail
    refine (M1.out _ (below_box _ _)).mono ?_
    rintro e w2 ⟨rfl, hb⟩
    have HB := Lib.hid (past (below_box _ _) hb)
    clear hb
    go_wp2
    (try simp only [Exit.inBlock, Exit.then])
    go_ret2
    exact HP.out _ HB.out
end Go.Proofs.YtepancmkopifpaaGreatDoor
