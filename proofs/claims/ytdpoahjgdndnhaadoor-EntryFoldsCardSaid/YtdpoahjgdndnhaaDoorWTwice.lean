/-
  The walk of EntryTwice: it returns true, and writes nothing that was there.
-/
import Derived.Test.YtdpoahjgdndnhaaDoorETold
import Derived.Test.YtdpoahjgdndnhaaDoorERowsW
import Derived.Test.YtdpoahjgdndnhaaDoorLRow
set_option maxRecDepth 100000
namespace Go.Proofs.YtdpoahjgdndnhaaDoor
open Go.RowKit
attribute [local go_sem ↓] Go.wp_at_zero Go.wp_at_succ
set_option linter.unusedVariables false

theorem rows_facts9 (l : List Int) : (rowsOf (l.map natI)).length ≤ 40 ∧ (∀ e ∈ rowsOf (l.map natI), e.may ∧ e.ok) ∧ (foldOn Man.zero (rowsOf (l.map natI))).2 = 0 ∧ 0 ≤ (foldOn Man.zero (rowsOf (l.map natI))).1.la ∧ (foldOn Man.zero (rowsOf (l.map natI))).1.la ≤ 40 := by
  have h := rows_good (l.map natI)
  have h1 := h.len
  have h2 := h.vw
  have h3 := h.la
  unfold rowsOf
  refine ⟨by rw [h1]; omega, h.may, h.code, ?_, ?_⟩ <;> rw [h3] <;> omega
theorem fold_last {l : List Ent} {e : Ent} (h : (foldOn Man.zero l).2 = 0) : (fold (l ++ [e])).2.2.2 = (foldOn Man.zero l).1.fault e := by
  unfold fold
  rw [foldOn_append _ _ _ h, foldOn_one]
  by_cases hf : (foldOn Man.zero l).1.fault e = 0
  · rw [if_pos hf, hf]; simp
  · rw [if_neg hf]; simp [hf]
theorem fold_step9 {l : List Ent} (h : (foldOn Man.zero l).2 = 0) {i : Nat} (hi : i < l.length) : (foldOn Man.zero (l.take (i + 1))).1 = (foldOn Man.zero (l.take i)).1.take (l.getD i Ent.zero) := by
  have e : l.take (i + 1) = l.take i ++ [l.getD i Ent.zero] := by
    rw [List.take_succ_eq_append_getElem hi, List.getD_eq_getElem?_getD, List.getElem?_eq_getElem hi]; rfl
  have hc : (foldOn Man.zero (l.take i)).2 = 0 := foldOn_front _ (l.drop i) _ (by rw [List.take_append_drop]; exact h)
  have hc2 : (foldOn Man.zero (l.take (i + 1))).2 = 0 := foldOn_front _ (l.drop (i + 1)) _ (by rw [List.take_append_drop]; exact h)
  rw [e, foldOn_append _ _ _ hc, foldOn_one] at hc2 ⊢
  by_cases hf : (foldOn Man.zero (l.take i)).1.fault (l.getD i Ent.zero) = 0
  · rw [if_pos hf]
  · rw [if_neg hf] at hc2
    exact absurd hc2 hf
theorem take_ev (m : Man) (e : Ent) : (m.take e).ev = if e.kd = 1 then e.id :: m.ev else m.ev := by
  unfold Man.take
  split
  · rfl
  · split
    · rfl
    · split
      · rfl
      · split <;> rfl
theorem take_la (m : Man) (e : Ent) : (m.take e).la = e.vw := by
  unfold Man.take
  split
  · rfl
  · split
    · rfl
    · split
      · rfl
      · split <;> rfl
theorem has_take_else {m : Man} {e : Ent} (h1 : e.kd ≠ 1) (h2 : e.kd ≠ 2) (i : Int) : (m.take e).has i ↔ m.has i := by
  unfold Man.take
  rw [if_neg h1, if_neg h2]
  unfold Man.has
  split
  · rfl
  · split <;> rfl
theorem fault_add {m : Man} {k : Int} (hk : 1 ≤ k ∧ k ≤ 40) (hl : 0 ≤ m.la ∧ m.la ≤ 40) : m.fault ⟨1, m.la, k, 0, 0, 1, 0, []⟩ = if k ∈ m.ev then 7 else 0 := by
  have hm : Ent.may ⟨1, m.la, k, 0, 0, 1, 0, []⟩ := by
    unfold Ent.may Ent.own Ent.says idOk
    simp
    omega
  unfold Man.fault
  rw [if_neg (fun h => h hm)]
  by_cases he : k ∈ m.ev
  · rw [if_pos ⟨rfl, he⟩, if_pos he]
  · rw [if_neg (fun h => he h.2), if_neg (by simp), if_neg (by simp only; omega), if_neg he]
theorem fault_drop {m : Man} {k : Int} (hk : 1 ≤ k ∧ k ≤ 40) (hl : 0 ≤ m.la ∧ m.la ≤ 40) : m.fault ⟨2, m.la, k, 0, 0, 0, 0, []⟩ = if m.has k then 0 else 9 := by
  have hm : Ent.may ⟨2, m.la, k, 0, 0, 0, 0, []⟩ := by
    unfold Ent.may Ent.own Ent.says idOk
    simp
    omega
  unfold Man.fault
  rw [if_neg (fun h => h hm), if_neg (by simp)]
  by_cases he : m.has k
  · rw [if_neg (fun h => h.2 he), if_neg (by simp only; omega), if_pos he]
  · rw [if_pos ⟨rfl, he⟩, if_neg he]
theorem own_emptyE (w : World) : (w.alloc (.cells #[] 25)).ownsRow w.heap.size 25 8 (.slice (some ⟨w.heap.size, 0, none⟩) 0 0) 0 (entV []) :=
  World.ownsRow_lit (size := 8) (e := 25) w #[] 0 (Nat.le_refl _) (Nat.zero_le _) rfl
theorem below_appE {w8 w9 : World} (hg : (w8.alloc (.cells #[] 25)).grownBy w9 (Value.slice (some ⟨w8.heap.size, 0, none⟩) 0 0).ownBlock) : Below w8.heap.size w8 w9 :=
  (past_alloc (Below.refl _ _) _).grown hg (by simp) (fun k e => by
    simp only [Value.ownBlock, Option.some.injEq] at e
    omega)
/-- What is carried along. -/
structure NB9 (w u : World) : Prop where
  nam : Nam u
  pos : 0 < u.heap.size
  below : Below w.heap.size w u
set_option maxHeartbeats 8000000 in
theorem walk_twice {A : Option Addr} {n ca : Nat} {l : List Int} (c : Int) {w : World} (h1 : Ints w A n ca l) (hw : Nam w) (h0 : 0 < w.heap.size) :
    Calls Tryd.prog 5 #[.slice A n ca, .int .i64 c] w fun e w' => e = .returned (.bool true) ∧ Below w.heap.size w w' := by
  have HX : Hid (Later w fun u => NB9 w u) := Lib.hid (fun u hu => ⟨hw.below h0 hu, Nat.lt_of_lt_of_le h0 hu.size, hu⟩)
  have M1 := Lib.hid (rows_any h1)
  obtain ⟨LA, hLA⟩ : ∃ LA, LA = rowsOf (l.map natI) := ⟨_, rfl⟩
  have hrf := rows_facts9 l
  rw [← hLA] at M1 hrf
  obtain ⟨na, hna⟩ : ∃ na, na = LA.length := ⟨_, rfl⟩
  unfold RowsPost at M1
  rw [← hna] at M1 hrf
  obtain ⟨hla, hmay, hcode, hv0, hv1⟩ := hrf
  have HNA := Lib.hid hna
  have HMAY := Lib.hid hmay
  have HCODE := Lib.hid hcode
  have HV := Lib.hid (And.intro hv0 hv1)
  clear h1 hw h0 hLA hna hmay hcode hv0 hv1
  obtain ⟨U, hU⟩ : ∃ U, IntKind.u64.wrap c = U := ⟨_, rfl⟩
  have hU0 : 0 ≤ U := by rw [← hU, IntKind.wrap_u64]; omega
  obtain ⟨y, hy, hy0, hy1⟩ : ∃ y : Int, U.tmod 40 = y ∧ 0 ≤ y ∧ y < 40 := ⟨_, rfl, Int.tmod_nonneg _ hU0, Int.tmod_lt_of_pos _ (by omega)⟩
  have hy' : U % 40 = y := by rw [← hy, Int.tmod_eq_emod_of_nonneg hU0]
  obtain ⟨k, hk⟩ : ∃ k : Int, k = 1 + y := ⟨_, rfl⟩
  have j1 : IntKind.i64.wrap y = y := by rw [IntKind.wrap_i64]; omega
  have j2 : IntKind.i64.wrap (1 + y) = k := by rw [IntKind.wrap_i64]; omega
  have HK : Hid (1 ≤ k ∧ k ≤ 40) := Lib.hid (by omega)
  clear hU0 hy0 hy1 hk
  go_enter Tryd.func5, Tryd.ntmps5
  go_wp2_with fail
  refine M1.out.mono ?_
  rintro en w2 ⟨A2, c2, rfl, hr, hb⟩
  have HX2 := Lib.hid (HX.out.on hb)
  have HA2 : Hid (Later w2 fun u => EntRow u A2 na c2 LA) := Lib.hid (fun u hu => hr.below hu)
  clear hr hb HX M1
  go_upto_region 3 with fail
  clear hU hy hy' j1 j2
  go_wp2
  go_loopw [7, 8, 9, 10] (fun s7 s8 s9 s10 wr => ∃ (i : Nat), i ≤ na ∧ s10 = .int .i64 (i : Int) ∧ s7 = .bool (decide (k ∈ (foldOn Man.zero (LA.take i)).1.ev)) ∧ s8 = .bool (decide ((foldOn Man.zero (LA.take i)).1.has k)) ∧ s9 = .int .i64 (foldOn Man.zero (LA.take i)).1.la ∧ Hid (w2 = wr)) (fun _ _ _ si _ => na - (intOf si).toNat)
  case atStart =>
    refine ⟨0, Nat.zero_le _, rfl, ?_, ?_, ?_, Lib.hid rfl⟩
    · rw [List.take_zero]; rfl
    · rw [List.take_zero]; rfl
    · rw [List.take_zero]; rfl
  case round =>
    obtain ⟨i, hi, rfl, rfl, rfl, rfl, HW⟩ := hrel
    by_cases hlt : i < na
    case pos =>
      have i0 : (0 : Int) ≤ (i : Int) := by omega
      have i1 : (i : Int) < (na : Int) := by omega
      obtain ⟨e, he⟩ : ∃ e, LA.getD i Ent.zero = e := ⟨_, rfl⟩
      have hst := fold_step9 HCODE.out (i := i) (by rw [← HNA.out]; exact hlt)
      rw [he] at hst
      have hev : (foldOn Man.zero (LA.take (i + 1))).1.ev = if e.kd = 1 then e.id :: (foldOn Man.zero (LA.take i)).1.ev else (foldOn Man.zero (LA.take i)).1.ev := by rw [hst, take_ev]
      have hlv : (foldOn Man.zero (LA.take (i + 1))).1.la = e.vw := by rw [hst, take_la]
      have hh1 : e.kd = 1 → ((foldOn Man.zero (LA.take (i + 1))).1.has k ↔ k = e.id ∨ (foldOn Man.zero (LA.take i)).1.has k) := fun h => by rw [hst, has_take_add h]
      have hh2 : e.kd = 2 → ((foldOn Man.zero (LA.take (i + 1))).1.has k ↔ (foldOn Man.zero (LA.take i)).1.has k ∧ k ≠ e.id) := fun h => by rw [hst, has_take_drop h]
      have hh3 : e.kd ≠ 1 → e.kd ≠ 2 → ((foldOn Man.zero (LA.take (i + 1))).1.has k ↔ (foldOn Man.zero (LA.take i)).1.has k) := fun h h' => by rw [hst, has_take_else h h']
      obtain ⟨x, off, hA, _, hcs⟩ := HA2.out.now.cells (by omega)
      obtain ⟨c0, c1, c2_, _⟩ := hcs i hlt
      rw [he] at c0 c1 c2_
      rw [HW.out] at c0 c1 c2_
      subst hA
      clear hst he hcs
      generalize (foldOn Man.zero (LA.take i)).1 = M at *
      obtain ⟨ev2, he2⟩ : ∃ B : Bool, B = decide (k ∈ (foldOn Man.zero (LA.take (i + 1))).1.ev) := ⟨_, rfl⟩
      obtain ⟨th2, ht2⟩ : ∃ B : Bool, B = decide ((foldOn Man.zero (LA.take (i + 1))).1.has k) := ⟨_, rfl⟩
      have HE2 := Lib.hid he2
      have HT2 := Lib.hid ht2
      have HLV := Lib.hid hlv
      obtain ⟨E, hE⟩ : ∃ B : Bool, B = decide (k ∈ M.ev) := ⟨_, rfl⟩
      obtain ⟨T, hT⟩ : ∃ B : Bool, B = decide (M.has k) := ⟨_, rfl⟩
      rw [← hE, ← hT]
      rw [hev] at he2
      by_cases k1 : e.kd = 1
      · rw [if_pos k1] at he2
        by_cases kid : e.id = k
        · have r1 : ev2 = true := by rw [he2]; simp [kid]
          have r2 : th2 = true := by rw [ht2]; exact decide_eq_true ((hh1 k1).2 (.inl kid.symm))
          have q1 : (e.kd == 1) = true := by simp [k1]
          have q2 : (e.id == k) = true := by simp [kid]
          have q3 : (e.kd == 2) = false := by simp [k1]
          have q4 : ¬ e.kd = 2 := by omega
          subst r1 r2
          clear he2 ht2 hE hT hev hh1 hh2 hh3 hlv
          go_wp2
          go_roundw
          case rel => exact ⟨i + 1, by omega, by go_num, by rw [← HE2.out], by rw [← HT2.out], by rw [HLV.out], HW⟩
          case measure => simp [intOf]; omega
        · have r1 : ev2 = E := by rw [he2, hE]; exact decide_eq_decide.2 ⟨fun h => (List.mem_cons.1 h).resolve_left (fun h => kid h.symm), fun h => List.mem_cons_of_mem _ h⟩
          have r2 : th2 = T := by rw [ht2, hT]; exact decide_eq_decide.2 ((hh1 k1).trans ⟨fun h => h.resolve_left (fun h => kid h.symm), .inr⟩)
          have q1 : (e.kd == 1) = true := by simp [k1]
          have q2 : (e.id == k) = false := by simp [kid]
          have q3 : (e.kd == 2) = false := by simp [k1]
          have q4 : ¬ e.kd = 2 := by omega
          subst r1 r2
          clear he2 ht2 hE hT hev hh1 hh2 hh3 hlv
          go_wp2
          go_roundw
          case rel => exact ⟨i + 1, by omega, by go_num, by rw [← HE2.out], by rw [← HT2.out], by rw [HLV.out], HW⟩
          case measure => simp [intOf]; omega
      · rw [if_neg k1] at he2
        have r1 : ev2 = E := by rw [he2, hE]
        have q1 : (e.kd == 1) = false := by simp [k1]
        by_cases k2 : e.kd = 2
        · have q3 : (e.kd == 2) = true := by simp [k2]
          by_cases kid : e.id = k
          · have r2 : th2 = false := by rw [ht2]; exact decide_eq_false (fun h => ((hh2 k2).1 h).2 kid.symm)
            have q2 : (e.id == k) = true := by simp [kid]
            subst r1 r2
            clear he2 ht2 hE hT hev hh1 hh2 hh3 hlv
            go_wp2
            go_roundw
            case rel => exact ⟨i + 1, by omega, by go_num, by rw [← HE2.out], by rw [← HT2.out], by rw [HLV.out], HW⟩
            case measure => simp [intOf]; omega
          · have r2 : th2 = T := by rw [ht2, hT]; exact decide_eq_decide.2 ((hh2 k2).trans ⟨fun h => h.1, fun h => ⟨h, fun h => kid h.symm⟩⟩)
            have q2 : (e.id == k) = false := by simp [kid]
            subst r1 r2
            clear he2 ht2 hE hT hev hh1 hh2 hh3 hlv
            go_wp2
            go_roundw
            case rel => exact ⟨i + 1, by omega, by go_num, by rw [← HE2.out], by rw [← HT2.out], by rw [HLV.out], HW⟩
            case measure => simp [intOf]; omega
        · have r2 : th2 = T := by rw [ht2, hT]; exact decide_eq_decide.2 (hh3 k1 k2)
          have q3 : (e.kd == 2) = false := by simp [k2]
          subst r1 r2
          clear he2 ht2 hE hT hev hh1 hh2 hh3 hlv
          go_wp2
          go_roundw
          case rel => exact ⟨i + 1, by omega, by go_num, by rw [← HE2.out], by rw [← HT2.out], by rw [HLV.out], HW⟩
          case measure => simp [intOf]; omega
    obtain rfl : i = na := by omega
    have i1 : ¬ (i : Int) < (i : Int) := by omega
    have htk : LA.take i = LA := List.take_of_length_le (by rw [← HNA.out]; omega)
    rw [htk]
    have hw2 := HW.out
    subst hw2
    have HF1 : Hid (∀ e, (fold (LA ++ [e])).2.2.2 = (foldOn Man.zero LA).1.fault e) := Lib.hid (fun e => fold_last HCODE.out)
    generalize (foldOn Man.zero LA).1 = M at *
    have HA1 := Lib.hid (fault_add HK.out HV.out)
    have HA3 := Lib.hid (fault_drop HK.out HV.out)
    have HOK1 : Hid (Ent.ok ⟨1, M.la, k, 0, 0, 1, 0, []⟩) := Lib.hid (by
      have h1 := HV.out
      have h2 := HK.out
      unfold Ent.ok In64
      simp
      omega)
    have HOK2 : Hid (Ent.ok ⟨2, M.la, k, 0, 0, 0, 0, []⟩) := Lib.hid (by
      have h1 := HV.out
      have h2 := HK.out
      unfold Ent.ok In64
      simp
      omega)
    clear htk HW HCODE HV HK
    go_upto_region 13 with fail
    have HO := Lib.hid (own_emptyE w2)
    have HRW := Lib.hid (HA2.out _ (below_box w2 (.cells #[] 25)))
    have HS1 : Hid (0 + i ≤ 100000) := Lib.hid (by omega)
    have HS2 : Hid (i + 1 ≤ 100000) := Lib.hid (by omega)
    have HZ : Hid (w2.heap.size ≤ (w2.alloc (.cells #[] 25)).heap.size) := Lib.hid (by simp)
    go_wp2_with (at_builtin; refine wpList_append_ents rfl _ _ rfl w2.heap.size _ 0 i [] LA rfl HO.out A2 c2 rfl HRW.out HS1.out HZ.out ?_)
    intro v3 w3 hown hg
    have hb3 := below_appE hg
    have HO3 : Hid ((w3.alloc (.cells #[.int .i64 1, .int .i64 M.la, .int .i64 k, .int .i64 0, .int .i64 0, .int .i64 1, .int .u32 0, .string ⟨#[]⟩] 25)).ownsRow w2.heap.size 25 8 v3 i (entV LA)) := Lib.hid (World.ownsRow.alloc (by simpa using hown) _)
    have hbl := past_alloc hb3 (.cells #[.int .i64 1, .int .i64 M.la, .int .i64 k, .int .i64 0, .int .i64 0, .int .i64 1, .int .u32 0, .string ⟨#[]⟩] 25)
    have HB3 := Lib.hid hbl
    clear hown hg hb3 hbl HO HRW HZ
    go_wp2_with (at_builtin; refine wpList_append_ents rfl _ _ rfl w2.heap.size v3 i 1 LA [⟨1, M.la, k, 0, 0, 1, 0, []⟩] rfl HO3.out _ _ rfl (row_ent ⟨1, M.la, k, 0, 0, 1, 0, []⟩ HOK1.out w3 _ _ _ _ _ _ _ _ rfl rfl) HS2.out HB3.out.size ?_)
    intro v4 w4 hown hg
    have hb4 : Below w2.heap.size w2 w4 := HB3.out.grown hg HB3.out.size (fun k e => (HO3.out.lt k e).1)
    have HX4 := Lib.hid (HX2.out.on hb4)
    have HA4 := Lib.hid (HA2.out.on hb4)
    obtain ⟨V4, c4, rfl, hr4, _⟩ := entRow_own hown (fun d hd => by
      rcases List.mem_append.1 hd with hd | hd
      · exact (HMAY.out d hd).2
      · rw [List.mem_singleton] at hd; rw [hd]; exact HOK1.out)
    have M4 := fold_in hr4 (by omega) HX4.out.now.nam HX4.out.now.pos
    obtain ⟨F, hF⟩ : ∃ F, F = fold (LA ++ [⟨1, M.la, k, 0, 0, 1, 0, []⟩]) := ⟨_, rfl⟩
    have hfc : F.2.2.2 = if k ∈ M.ev then 7 else 0 := by rw [hF, HF1.out, HA1.out]
    rw [← hF] at M4
    obtain ⟨FI, ⟨p0, p1, p2, p3, p4, p5⟩, fv, fc⟩ := F
    simp only at M4 hfc
    unfold Pol.val at M4
    have HM4 := Lib.hid M4
    have HFC := Lib.hid hfc
    clear M4 hF hfc hown hg hb4 hr4 HX2 HA2 HO3 HB3
    go_wp2_with fail
    refine HM4.out.mono ?_
    rintro en w5 ⟨V5, c5, rfl, _, hb⟩
    have hb_ := past hb (below_box w5 (.cells #[.int .i64 p0, .int .i64 p1, .int .i64 p2, .int .i64 p3, .int .i64 p4, .int .i64 p5] 39))
    have HX6 := Lib.hid (HX4.out.on hb_)
    have HA6 := Lib.hid (HA4.out.on hb_)
    clear hb hb_ HM4 HX4 HA4
    go_upto_region 14 with fail
    generalize w5.alloc (.cells #[.int .i64 p0, .int .i64 p1, .int .i64 p2, .int .i64 p3, .int .i64 p4, .int .i64 p5] 39) = w6 at *
    generalize w5.heap.size = gp at *
    have HO := Lib.hid (own_emptyE w6)
    have HRW := Lib.hid (HA6.out _ (below_box w6 (.cells #[] 25)))
    have HZ : Hid (w6.heap.size ≤ (w6.alloc (.cells #[] 25)).heap.size) := Lib.hid (by simp)
    go_wp2_with (at_builtin; refine wpList_append_ents rfl _ _ rfl w6.heap.size _ 0 i [] LA rfl HO.out A2 c2 rfl HRW.out HS1.out HZ.out ?_)
    intro v7 w7 hown hg
    have hb7 := below_appE hg
    have HO7 : Hid ((w7.alloc (.cells #[.int .i64 2, .int .i64 M.la, .int .i64 k, .int .i64 0, .int .i64 0, .int .i64 0, .int .u32 0, .string ⟨#[]⟩] 25)).ownsRow w6.heap.size 25 8 v7 i (entV LA)) := Lib.hid (World.ownsRow.alloc (by simpa using hown) _)
    have hbl := past_alloc hb7 (.cells #[.int .i64 2, .int .i64 M.la, .int .i64 k, .int .i64 0, .int .i64 0, .int .i64 0, .int .u32 0, .string ⟨#[]⟩] 25)
    have HB7 := Lib.hid hbl
    clear hown hg hb7 hbl HO HRW HZ
    go_wp2_with (at_builtin; refine wpList_append_ents rfl _ _ rfl w6.heap.size v7 i 1 LA [⟨2, M.la, k, 0, 0, 0, 0, []⟩] rfl HO7.out _ _ rfl (row_ent ⟨2, M.la, k, 0, 0, 0, 0, []⟩ HOK2.out w7 _ _ _ _ _ _ _ _ rfl rfl) HS2.out HB7.out.size ?_)
    intro v8 w8 hown hg
    have hb8 : Below w6.heap.size w6 w8 := HB7.out.grown hg HB7.out.size (fun k e => (HO7.out.lt k e).1)
    have HX8 := Lib.hid (HX6.out.on hb8)
    obtain ⟨V8, c8, rfl, hr8, _⟩ := entRow_own hown (fun d hd => by
      rcases List.mem_append.1 hd with hd | hd
      · exact (HMAY.out d hd).2
      · rw [List.mem_singleton] at hd; rw [hd]; exact HOK2.out)
    have M8 := fold_in hr8 (by omega) HX8.out.now.nam HX8.out.now.pos
    obtain ⟨F, hF⟩ : ∃ F, F = fold (LA ++ [⟨2, M.la, k, 0, 0, 0, 0, []⟩]) := ⟨_, rfl⟩
    have hfc : F.2.2.2 = if M.has k then 0 else 9 := by rw [hF, HF1.out, HA3.out]
    rw [← hF] at M8
    obtain ⟨FI2, ⟨r0, r1, r2, r3, r4, r5⟩, fv2, fc2⟩ := F
    simp only at M8 hfc
    unfold Pol.val at M8
    have HM8 := Lib.hid M8
    have HFC2 := Lib.hid hfc
    clear M8 hF hfc hown hg hb8 hr8 HX6 HA6 HO7 HB7 HS1 HS2
    go_wp2_with fail
    refine HM8.out.mono ?_
    rintro en w9 ⟨V9, c9, rfl, _, hb⟩
    have hb_ := past hb (below_box w9 (.cells #[.int .i64 r0, .int .i64 r1, .int .i64 r2, .int .i64 r3, .int .i64 r4, .int .i64 r5] 39))
    have HX10 := Lib.hid (HX8.out.on hb_)
    clear hb hb_ HM8 HX8
    go_upto_region 15 with fail
    generalize w9.alloc (.cells #[.int .i64 r0, .int .i64 r1, .int .i64 r2, .int .i64 r3, .int .i64 r4, .int .i64 r5] 39) = w10 at *
    generalize w9.heap.size = gq at *
    go_wp2_with fail
    refine (told_any w10 HX10.out.now.nam HX10.out.now.pos).mono ?_
    rintro en w11 ⟨rfl, hb⟩
    have HB := Lib.hid (past HX10.out.now.below hb)
    clear hb HX10
    obtain ⟨E, hE⟩ : ∃ B : Bool, B = decide (k ∈ M.ev) := ⟨_, rfl⟩
    obtain ⟨T, hT⟩ : ∃ B : Bool, B = decide (M.has k) := ⟨_, rfl⟩
    rw [← hE, ← hT]
    have hfc := HFC.out
    have hfc2 := HFC2.out
    by_cases b1 : k ∈ M.ev
    · rw [if_pos b1] at hfc
      rw [decide_eq_true b1] at hE
      subst hfc hE
      by_cases b2 : M.has k
      · rw [if_pos b2] at hfc2
        rw [decide_eq_true b2] at hT
        subst hfc2 hT
        clear b1 b2 HFC HFC2 HA1 HA3 HF1
        go_wp2
        go_ret
        exact ⟨rfl, HB.out⟩
      · rw [if_neg b2] at hfc2
        rw [decide_eq_false b2] at hT
        subst hfc2 hT
        clear b1 b2 HFC HFC2 HA1 HA3 HF1
        go_wp2
        go_ret
        exact ⟨rfl, HB.out⟩
    · rw [if_neg b1] at hfc
      rw [decide_eq_false b1] at hE
      subst hfc hE
      by_cases b2 : M.has k
      · rw [if_pos b2] at hfc2
        rw [decide_eq_true b2] at hT
        subst hfc2 hT
        clear b1 b2 HFC HFC2 HA1 HA3 HF1
        go_wp2
        go_ret
        exact ⟨rfl, HB.out⟩
      · rw [if_neg b2] at hfc2
        rw [decide_eq_false b2] at hT
        subst hfc2 hT
        clear b1 b2 HFC HFC2 HA1 HA3 HF1
        go_wp2
        go_ret
        exact ⟨rfl, HB.out⟩
end Go.Proofs.YtdpoahjgdndnhaaDoor
