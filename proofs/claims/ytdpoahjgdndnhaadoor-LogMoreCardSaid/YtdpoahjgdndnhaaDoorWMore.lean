/-
  The walk of LogMore: it returns true, and writes nothing that was there.
-/
import Derived.Test.YtdpoahjgdndnhaaDoorLWalk
set_option maxRecDepth 100000
namespace Go.Proofs.YtdpoahjgdndnhaaDoor
open Go.RowKit
attribute [local go_sem ↓] Go.wp_at_zero Go.wp_at_succ
set_option linter.unusedVariables false

theorem first_zero0 (r : List Nat) : (first (0 :: r)).2 = 0 := by
  have h := first_at (n := 0) (by omega) r
  rw [enc_small (by omega)] at h
  have e : ([0] : List Nat) ++ r = 0 :: r := rfl
  rw [e] at h
  rw [h]
  split
  · rfl
  · split
    · next h2 =>
      have : (getE2 ((r.drop 4).take 0)).2 = 2 := by rw [List.take_zero]; decide
      rw [this] at h2
      exact absurd h2.2 (by decide)
    · rfl
theorem may_ne {e : Ent} (h : e.may) : e ≠ Ent.zero := by
  rintro rfl
  exact absurd h (by decide)
/-- A row of bytes that a call made of the pieces, onto an empty one. -/
theorem below_app {w8 w9 : World} (hg : (w8.alloc (.cells #[] 5)).grownBy w9 (Value.slice (some ⟨w8.heap.size, 0, none⟩) 0 0).ownBlock) : Below w8.heap.size w8 w9 :=
  (past_alloc (Below.refl _ _) _).grown hg (by simp) (fun k e => by
    simp only [Value.ownBlock, Option.some.injEq] at e
    omega)
set_option maxHeartbeats 8000000 in
theorem walk_more (HT : Hid ToldL) {A B D : Option Addr} {n m nb ca cb cd : Nat} {l l2 : List Int} {bs : List Nat} {w : World} (h1 : Ints w A n ca l) (h2 : Ints w B m cb l2) (h3 : BRow w D nb cd bs) (hw : Nam w) (h0 : 0 < w.heap.size) :
    Calls Tryd.prog 11 #[.slice A n ca, .slice B m cb, .slice D nb cd] w fun e w' => e = .returned (.bool true) ∧ Below w.heap.size w w' := by
  have HX : Hid (Later w fun u => NB w u) := Lib.hid (fun u hu => ⟨hw.below h0 hu, Nat.lt_of_lt_of_le h0 hu.size, hu⟩)
  have H1 : Hid (Later w fun u => Ints u A n ca l ∧ Ints u B m cb l2 ∧ BRow u D nb cd bs) := Lib.hid (fun u hu => ⟨h1.below hu, h2.below hu, h3.below hu⟩)
  clear h1 h2 h3 hw h0
  by_cases hbig : nb ≤ 20
  case neg =>
    have i1 : (nb : Int) > 20 := by omega
    go_enter Tryd.func11, Tryd.ntmps11
    go_wp2_with fail
    refine (HT.out _ HX.out.now.nam HX.out.now.pos).mono ?_
    rintro en w3 ⟨rfl, hb⟩
    have HB := Lib.hid (past HX.out.now.below hb)
    clear hb HX H1
    go_wp2
    go_ret
    exact ⟨rfl, HB.out⟩
  have i1 : ¬ (nb : Int) > 20 := by omega
  have M1 := Lib.hid (rows_any H1.out.now.1)
  go_enter Tryd.func11, Tryd.ntmps11
  go_wp2_with fail
  refine M1.out.mono ?_
  rintro en w2 ⟨A2, c2, rfl, hr, hb⟩
  have HX2 := Lib.hid (HX.out.on hb)
  have H2 := Lib.hid (H1.out.on hb)
  obtain ⟨LX, hLX⟩ : ∃ LX, LX = rowsOf (l.map natI) := ⟨_, rfl⟩
  have hrf := rows_facts l
  rw [← hLX] at hr hrf ⊢
  obtain ⟨nx, hnx⟩ : ∃ nx, nx = LX.length := ⟨_, rfl⟩
  rw [← hnx] at hr hrf ⊢
  obtain ⟨hlx, hmx⟩ := hrf
  have HNX := Lib.hid hnx
  have HMX := Lib.hid hmx
  have hbx := allB_bound hmx
  rw [← hnx] at hbx
  have HA2 : Hid (Later w2 fun u => EntRow u A2 nx c2 LX) := Lib.hid (fun u hu => hr.below hu)
  clear hr hb HX H1 hLX hnx hmx M1
  have M1 := Lib.hid (rows_any H2.out.now.2.1)
  go_wp2_with fail
  refine M1.out.mono ?_
  rintro en w3 ⟨B2, d2, rfl, hr, hb⟩
  have HX3 := Lib.hid (HX2.out.on hb)
  have HA3 := Lib.hid (HA2.out.on hb)
  have HD3 : Hid (Later w3 fun u => BRow u D nb cd bs) := Lib.hid (fun u hu => (H2.out u (past hb hu)).2.2)
  obtain ⟨LY, hLY⟩ : ∃ LY, LY = rowsOf (l2.map natI) := ⟨_, rfl⟩
  have hrf := rows_facts l2
  rw [← hLY] at hr hrf ⊢
  obtain ⟨ny, hny⟩ : ∃ ny, ny = LY.length := ⟨_, rfl⟩
  rw [← hny] at hr hrf ⊢
  obtain ⟨hly, hmy⟩ := hrf
  have HNY := Lib.hid hny
  have HMY := Lib.hid hmy
  have hby := allB_bound hmy
  rw [← hny] at hby
  have HB3 : Hid (Later w3 fun u => EntRow u B2 ny d2 LY) := Lib.hid (fun u hu => hr.below hu)
  clear hr hb HX2 H2 HA2 hLY hny hmy M1
  have M := all_may HA3.out.now HMX.out (by omega) HX3.out.now.nam HX3.out.now.pos
  obtain ⟨P, hP⟩ : ∃ P, P = (allB LX).length := ⟨_, rfl⟩
  rw [← hP] at M hbx
  have HP := Lib.hid hP
  have HM := Lib.hid M
  clear M hP
  go_wp2_with fail
  refine HM.out.mono ?_
  rintro en w4 ⟨V4, c4, rfl, hr, hb, _⟩
  have HX4 := Lib.hid (HX3.out.on hb)
  have HA4 := Lib.hid (HA3.out.on hb)
  have HB4 := Lib.hid (HB3.out.on hb)
  have HD4 := Lib.hid (HD3.out.on hb)
  have HP4 : Hid (Later w4 fun u => BRow u V4 P c4 (allB LX)) := Lib.hid (fun u hu => hr.below hu)
  have HBX := Lib.hid hr.bytes.1
  clear hr hb HX3 HA3 HB3 HD3 HM
  have M := all_may HB4.out.now HMY.out (by omega) HX4.out.now.nam HX4.out.now.pos
  obtain ⟨Q, hQ⟩ : ∃ Q, Q = (allB LY).length := ⟨_, rfl⟩
  rw [← hQ] at M hby
  have HQ := Lib.hid hQ
  have HM := Lib.hid M
  clear M hQ
  go_wp2_with fail
  refine HM.out.mono ?_
  rintro en w5 ⟨V5, c5, rfl, hr, hb, _⟩
  have HX5 := Lib.hid (HX4.out.on hb)
  have HA5 := Lib.hid (HA4.out.on hb)
  have HD5 := Lib.hid (HD4.out.on hb)
  have HP5 := Lib.hid (HP4.out.on hb)
  have HQ5 : Hid (Later w5 fun u => BRow u V5 Q c5 (allB LY)) := Lib.hid (fun u hu => hr.below hu)
  have HBY := Lib.hid hr.bytes.1
  clear hr hb HX4 HA4 HB4 HD4 HP4 HM
  go_upto_region 8 with fail
  -- the two, one behind the other
  have HO := Lib.hid (own_empty w5)
  have HW := Lib.hid (HP5.out _ (below_box w5 (.cells #[] 5)))
  have HS1 : Hid (0 + P ≤ 100000) := Lib.hid (by omega)
  have HS2 : Hid (P + Q ≤ 100000) := Lib.hid (by omega)
  have HZ : Hid (w5.heap.size ≤ (w5.alloc (.cells #[] 5)).heap.size) := Lib.hid (by simp)
  go_wp2_with (at_builtin; refine wpList_append_brow rfl _ _ rfl w5.heap.size _ 0 P [] (allB LX) rfl HO.out V4 c4 rfl HW.out HS1.out HZ.out ?_)
  intro v6 w6 hown hg
  have hb6 := below_app hg
  have HO6 : Hid (w6.ownsRow w5.heap.size 5 1 v6 P (bytesV (allB LX))) := Lib.hid (by simpa using hown)
  have HB6 := Lib.hid hb6
  have HW6 := Lib.hid (HQ5.out _ hb6)
  clear hown hg hb6 HO HW HZ
  go_wp2_with (at_builtin; refine wpList_append_brow rfl _ _ rfl w5.heap.size v6 P Q (allB LX) (allB LY) rfl HO6.out V5 c5 rfl HW6.out HS2.out HB6.out.size ?_)
  intro v7 w7 hown hg
  have hb7 : Below w5.heap.size w5 w7 := HB6.out.grown hg HB6.out.size (fun k e => (HO6.out.lt k e).1)
  have HX7 := Lib.hid (HX5.out.on hb7)
  have HA7 := Lib.hid (HA5.out.on hb7)
  have HD7 := Lib.hid (HD5.out.on hb7)
  have HP7 := Lib.hid (HP5.out.on hb7)
  have HQ7 := Lib.hid (HQ5.out.on hb7)
  obtain ⟨V7, c7, rfl, hr7, _⟩ := brow_of_own hown (fun d hd => by
    rcases List.mem_append.1 hd with hd | hd
    · exact HBX.out d hd
    · exact HBY.out d hd)
  rw [← allB_append] at hr7
  have M := read_log hr7 (by omega) HX7.out.now.nam HX7.out.now.pos
  have hmm : ∀ e ∈ LX ++ LY, e.may ∧ e.ok := fun e he => by
    rcases List.mem_append.1 he with he | he
    · exact HMX.out e he
    · exact HMY.out e he
  unfold readL at M
  rw [readN_some hmm (by rw [List.length_append, ← HNX.out, ← HNY.out]; omega)] at M
  unfold ReadLPost at M
  simp only at M
  rw [List.length_append, ← HNX.out, ← HNY.out, allB_append, List.length_append, ← HP.out, ← HQ.out] at M
  obtain ⟨PQ, hPQ⟩ : ∃ PQ, PQ = P + Q := ⟨_, rfl⟩
  obtain ⟨nn, hnn⟩ : ∃ nn, nn = nx + ny := ⟨_, rfl⟩
  rw [← hPQ] at hr7
  rw [← hPQ, ← hnn] at M
  have HM := Lib.hid M
  rw [← hPQ]
  have k1 : IntKind.i64.wrap ((P : Int) + (Q : Int)) = (PQ : Int) := by rw [IntKind.wrap_i64]; omega
  have k2 : IntKind.i64.wrap ((nx : Int) + (ny : Int)) = (nn : Int) := by rw [IntKind.wrap_i64]; omega
  have k3 : ((PQ : Int) != (PQ : Int)) = false := by simp
  have k4 : ((nn : Int) != (nn : Int)) = false := by simp
  clear M hmm hr7 hown hg hb7 HX5 HA5 HD5 HP5 HQ5 HO6 HB6 HW6 HS1 HS2 hPQ hnn
  go_wp2_with fail
  refine HM.out.mono ?_
  rintro en w8 ⟨L8, c8, rfl, hr, hb⟩
  have HX8 := Lib.hid (HX7.out.on hb)
  have HA8 := Lib.hid (HA7.out.on hb)
  have HD8 := Lib.hid (HD7.out.on hb)
  have HP8 := Lib.hid (HP7.out.on hb)
  have HQ8 := Lib.hid (HQ7.out.on hb)
  have M := front_any HA8.out.now hr
  rw [meet_app, ← HNX.out, decide_eq_true rfl] at M
  have HM := Lib.hid M
  clear M hr hb HX7 HA7 HD7 HP7 HQ7
  go_wp2_with fail
  refine HM.out.mono ?_
  rintro en w9 ⟨rfl, hb⟩
  have HX9 := Lib.hid (HX8.out.on hb)
  have HA9 := Lib.hid (HA8.out.on hb)
  have HD9 := Lib.hid (HD8.out.on hb)
  have HP9 := Lib.hid (HP8.out.on hb)
  have HQ9 := Lib.hid (HQ8.out.on hb)
  clear hb HM HX8 HA8 HD8 HP8 HQ8 k1 k2 k3 k4
  go_upto_region 11 with fail
  -- a zero between them
  have HO := Lib.hid (own_empty w9)
  have HW := Lib.hid (HP9.out _ (below_box w9 (.cells #[] 5)))
  have HS1 : Hid (0 + P ≤ 100000) := Lib.hid (by omega)
  have HS2 : Hid (P + 1 ≤ 100000) := Lib.hid (by omega)
  have HS3 : Hid (P + 1 + Q ≤ 100000) := Lib.hid (by omega)
  have HZ : Hid (w9.heap.size ≤ (w9.alloc (.cells #[] 5)).heap.size) := Lib.hid (by simp)
  go_wp2_with (at_builtin; refine wpList_append_brow rfl _ _ rfl w9.heap.size _ 0 P [] (allB LX) rfl HO.out V4 c4 rfl HW.out HS1.out HZ.out ?_)
  intro v10 w10 hown hg
  have hb10 := below_app hg
  have HO10 : Hid ((w10.alloc (.cells #[.int .u8 0] 5)).ownsRow w9.heap.size 5 1 v10 P (bytesV (allB LX))) := Lib.hid (World.ownsRow.alloc (by simpa using hown) _)
  have hbl := past_alloc hb10 (.cells #[.int .u8 0] 5)
  have HB10 := Lib.hid hbl
  have HLIT : Hid (BRow (w10.alloc (.cells #[.int .u8 0] 5)) (some ⟨w10.heap.size, 0, none⟩) 1 1 [0]) := Lib.hid (brow_lit w10 0 (by omega))
  clear hown hg hb10 hbl HO HW HZ
  go_wp2_with (at_builtin; refine wpList_append_brow rfl _ _ rfl w9.heap.size v10 P 1 (allB LX) [0] rfl HO10.out _ _ rfl HLIT.out HS2.out HB10.out.size ?_)
  intro v11 w11 hown hg
  have hb11 : Below w9.heap.size w9 w11 := HB10.out.grown hg HB10.out.size (fun k e => (HO10.out.lt k e).1)
  have HO11 : Hid (w11.ownsRow w9.heap.size 5 1 v11 (P + 1) (bytesV (allB LX ++ [0]))) := Lib.hid hown
  have HB11 := Lib.hid hb11
  have HW11 := Lib.hid (HQ9.out _ hb11)
  clear hown hg hb11 HO10 HB10 HLIT HS1 HS2
  go_wp2_with (at_builtin; refine wpList_append_brow rfl _ _ rfl w9.heap.size v11 (P + 1) Q (allB LX ++ [0]) (allB LY) rfl HO11.out V5 c5 rfl HW11.out HS3.out HB11.out.size ?_)
  intro v12 w12 hown hg
  have hb12 : Below w9.heap.size w9 w12 := HB11.out.grown hg HB11.out.size (fun k e => (HO11.out.lt k e).1)
  have HX12 := Lib.hid (HX9.out.on hb12)
  have HA12 := Lib.hid (HA9.out.on hb12)
  have HD12 := Lib.hid (HD9.out.on hb12)
  have HP12 := Lib.hid (HP9.out.on hb12)
  obtain ⟨V12, c12, rfl, hr12, _⟩ := brow_of_own hown (fun d hd => by
    rcases List.mem_append.1 hd with hd | hd
    · exact HBX.out d hd
    · rcases List.mem_cons.1 hd with rfl | hd
      · omega
      · exact HBY.out d hd)
  have M := read_log hr12 (by omega) HX12.out.now.nam HX12.out.now.pos
  unfold readL at M
  rw [readN_all LX 2000 _ HMX.out (by rw [← HNX.out]; omega), readN_zero _ (first_zero0 _)] at M
  unfold ReadLPost at M
  simp only [List.append_nil, Nat.add_zero] at M
  rw [← HNX.out, ← HP.out] at M
  have HM := Lib.hid M
  clear M hr12 hown hg hb12 HX9 HA9 HD9 HP9 HQ9 HO11 HB11 HW11 HS3
  go_wp2_with fail
  refine HM.out.mono ?_
  rintro en w13 ⟨L13, c13, rfl, hr, hb⟩
  have HX13 := Lib.hid (HX12.out.on hb)
  have HA13 := Lib.hid (HA12.out.on hb)
  have HD13 := Lib.hid (HD12.out.on hb)
  have HP13 := Lib.hid (HP12.out.on hb)
  clear hr hb HX12 HA12 HD12 HP12 HM
  go_upto_region 12 with fail
  -- any bytes behind
  have HO := Lib.hid (own_empty w13)
  have HW := Lib.hid (HP13.out _ (below_box w13 (.cells #[] 5)))
  have HS1 : Hid (0 + P ≤ 100000) := Lib.hid (by omega)
  have HS2 : Hid (P + nb ≤ 100000) := Lib.hid (by omega)
  have HZ : Hid (w13.heap.size ≤ (w13.alloc (.cells #[] 5)).heap.size) := Lib.hid (by simp)
  have HDB := Lib.hid HD13.out.now.bytes.1
  go_wp2_with (at_builtin; refine wpList_append_brow rfl _ _ rfl w13.heap.size _ 0 P [] (allB LX) rfl HO.out V4 c4 rfl HW.out HS1.out HZ.out ?_)
  intro v14 w14 hown hg
  have hb14 := below_app hg
  have HO14 : Hid (w14.ownsRow w13.heap.size 5 1 v14 P (bytesV (allB LX))) := Lib.hid (by simpa using hown)
  have HB14 := Lib.hid hb14
  have HW14 := Lib.hid (HD13.out _ hb14)
  clear hown hg hb14 HO HW HZ
  go_wp2_with (at_builtin; refine wpList_append_brow rfl _ _ rfl w13.heap.size v14 P nb (allB LX) bs rfl HO14.out D cd rfl HW14.out HS2.out HB14.out.size ?_)
  intro v15 w15 hown hg
  have hb15 : Below w13.heap.size w13 w15 := HB14.out.grown hg HB14.out.size (fun k e => (HO14.out.lt k e).1)
  have HX15 := Lib.hid (HX13.out.on hb15)
  have HA15 := Lib.hid (HA13.out.on hb15)
  obtain ⟨V15, c15, rfl, hr15, _⟩ := brow_of_own hown (fun d hd => by
    rcases List.mem_append.1 hd with hd | hd
    · exact HBX.out d hd
    · exact HDB.out d hd)
  have M := read_log hr15 (by omega) HX15.out.now.nam HX15.out.now.pos
  unfold readL at M
  rw [readN_all LX 2000 _ HMX.out (by rw [← HNX.out]; omega)] at M
  obtain ⟨MR, hMR⟩ : ∃ MR, MR = readN (2000 - LX.length) bs := ⟨_, rfl⟩
  rw [← hMR] at M
  unfold ReadLPost at M
  simp only at M
  rw [← HP.out] at M
  obtain ⟨nl, hnl⟩ : ∃ nl, nl = (LX ++ MR.1).length := ⟨_, rfl⟩
  obtain ⟨up, hup⟩ : ∃ up, up = P + MR.2 := ⟨_, rfl⟩
  rw [← hnl, ← hup] at M
  have HM := Lib.hid M
  have k1 : ((nl : Int) ≥ (nx : Int)) := by rw [hnl, List.length_append, ← HNX.out]; omega
  have k2 : ((up : Int) ≥ (P : Int)) := by omega
  have k3 : decide ((nl : Int) ≥ (nx : Int)) = true := decide_eq_true k1
  have k4 : decide ((up : Int) ≥ (P : Int)) = true := decide_eq_true k2
  clear M hr15 hown hg hb15 HX13 HA13 HD13 HP13 HO14 HB14 HW14 HS1 HS2 hnl hup hMR
  go_wp2_with fail
  refine HM.out.mono ?_
  rintro en w16 ⟨L16, c16, rfl, hr, hb⟩
  have HX16 := Lib.hid (HX15.out.on hb)
  have HA16 := Lib.hid (HA15.out.on hb)
  have HL16 : Hid (Later w16 fun u => EntRow u L16 nl c16 (LX ++ MR.1)) := Lib.hid (fun u hu => hr.below hu)
  clear hr hb HX15 HA15 HM
  go_wp2_with fail
  refine (HT.out _ HX16.out.now.nam HX16.out.now.pos).mono ?_
  rintro en w17 ⟨rfl, hb⟩
  have HX17 := Lib.hid (HX16.out.on hb)
  have HA17 := Lib.hid (HA16.out.on hb)
  have M := front_any HA17.out.now (HL16.out _ hb)
  rw [meet_app, ← HNX.out, decide_eq_true rfl] at M
  have HM := Lib.hid M
  clear M hb HX16 HA16 HL16
  go_wp2_with fail
  refine HM.out.mono ?_
  rintro en w18 ⟨rfl, hb⟩
  have HB := Lib.hid (past HX17.out.now.below hb)
  have HA18 := Lib.hid (HA17.out.on hb)
  clear hb HX17 HA17 HM k1 k2 k3 k4
  by_cases hx0 : nx = 0
  · subst hx0
    go_wp2
    go_ret
    exact ⟨rfl, HB.out⟩
  · have z1 : ((nx : Int) == 0) = false := by simp; omega
    have z2 : ¬ (nx : Int) = 0 := by omega
    have z3 : (0 : Int) < (nx : Int) := by omega
    obtain ⟨e, he⟩ : ∃ e, LX.getD 0 Ent.zero = e := ⟨_, rfl⟩
    have hem := may_at HMX.out (j := 0) (by rw [← HNX.out]; omega)
    rw [he] at hem
    obtain ⟨x, off, hA, _, hcs⟩ := HA18.out.now.cells (by omega)
    obtain ⟨q0, q1, q2, q3, q4, q5, q6, q7⟩ := hcs 0 (by omega)
    rw [he] at q0 q1 q2 q3 q4 q5 q6 q7
    simp only [Nat.zero_mul, Nat.add_zero] at q0 q1 q2 q3 q4 q5 q6 q7
    subst hA
    unfold str at q7
    have hq := ent_neq e Ent.zero
    rw [decide_eq_true (may_ne hem.1)] at hq
    unfold Ent.val Ent.zero str at hq
    simp only at hq
    clear he hem hcs hx0 HA18
    go_wp2
    go_ret
    exact ⟨rfl, HB.out⟩
end Go.Proofs.YtdpoahjgdndnhaaDoor
