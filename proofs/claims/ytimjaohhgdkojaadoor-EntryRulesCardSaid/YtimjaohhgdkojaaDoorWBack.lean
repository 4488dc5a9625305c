/-
  The walk of EntryBack: it returns true, and writes nothing that was there.
-/
import Derived.Test.YtimjaohhgdkojaaDoorETold
import Derived.Test.YtimjaohhgdkojaaDoorEBackM
import Derived.Laws.BitsAllLaws
set_option maxRecDepth 100000
namespace Go.Proofs.YtimjaohhgdkojaaDoor
open Go.RowKit
attribute [local go_sem ↓] Go.wp_at_zero Go.wp_at_succ
set_option linter.unusedVariables false

theorem own_empty (w : World) : (w.alloc (.cells #[] 5)).ownsRow w.heap.size 5 1 (.slice (some ⟨w.heap.size, 0, none⟩) 0 0) 0 (bytesV []) :=
  World.ownsRow_lit (size := 1) (e := 5) w #[] 0 (Nat.le_refl _) (Nat.zero_le _) rfl
theorem brow_of_own0 {w : World} {base g n cap : Nat} {d : List Nat} (h : w.ownsRow base 5 1 (.slice (some ⟨g, 0, none⟩) n cap) n (bytesV d)) (hb : ∀ c ∈ d, c < 256) : BRow w (some ⟨g, 0, none⟩) n cap d := by
  obtain ⟨A, cap', e, hr, _⟩ := brow_of_own h hb
  injection e with e1 e2 e3
  subst e1 e3
  exact hr
theorem brow_lit (w : World) (c : Nat) (hc : c < 256) : BRow (w.alloc (.cells #[.int .u8 (c : Int)] 5)) (some ⟨w.heap.size, 0, none⟩) 1 1 [c] :=
  brow_of_own0 (World.ownsRow_lit (base := w.heap.size) (size := 1) (e := 5) w #[.int .u8 (c : Int)] 1 (Nat.le_refl _) (by unfold maxLen; omega) rfl) (fun x hx => by
    obtain rfl : x = c := by simpa using hx
    exact hc)
theorem row_one (e : Ent) (he : e.ok) (u : World) : EntRow (u.alloc (.cells #[.int .i64 e.kd, .int .i64 e.vw, .int .i64 e.id, .int .i64 e.tr, .int .i64 e.fr, .int .i64 e.tl, .int .u32 e.sm, .string ⟨e.tx.toArray⟩] 26)) (some ⟨u.heap.size, 0, none⟩) 1 1 [e] := by
  refine ⟨rfl, Nat.le_refl _, by unfold maxLen; omega, fun h => (by cases h), fun d hd => ?_, fun _ => ⟨u.heap.size, 0, rfl, by simp, fun j hj => ?_⟩⟩
  · simp only [List.mem_cons, List.not_mem_nil, or_false] at hd
    subst hd
    exact he
  · match j, hj with
    | 0, _ => exact ⟨by simp, by simp, by simp, by simp, by simp, by simp, by simp, by simp [str]⟩
theorem bytes_short {e : Ent} (h : e.may) (ho : e.ok) : e.bytes.length ≤ 400 := by
  have hn : ∀ n ∈ e.nums, n < 18446744073709551616 := by
    obtain ⟨h1, h2, h3, h4, h5, h6, h7, h8⟩ := ho
    unfold In64 at h1 h2 h3 h4 h5 h6
    intro n hn
    unfold Ent.nums at hn
    split at hn
    · simp only [List.mem_cons, List.not_mem_nil, or_false] at hn
      rcases hn with rfl | rfl | rfl | rfl | rfl | rfl <;> omega
    · split at hn
      · simp only [List.mem_cons, List.not_mem_nil, or_false] at hn
        rcases hn with rfl | rfl <;> omega
      · split at hn
        · simp only [List.mem_cons, List.not_mem_nil, or_false] at hn
          rcases hn with rfl | rfl <;> omega
        · simp only [List.mem_cons, List.not_mem_nil, or_false] at hn
          subst hn
          omega
  have h1 := numsB_len e.nums hn
  have h2 : e.nums.length ≤ 6 := by unfold Ent.nums; split <;> (try split) <;> (try split) <;> simp
  have h3 : (textB (if e.kd = 4 then e.tx else [])).length ≤ 300 := by
    by_cases k4 : e.kd = 4
    · have hs := h.2.2
      unfold Ent.says at hs
      rw [if_neg (by omega), if_neg (by omega), if_neg (by omega), if_pos k4] at hs
      rw [if_pos k4]
      have := hs.1
      simpa [textB] using this
    · rw [if_neg k4]; simp [textB]
  unfold Ent.bytes
  rw [List.length_cons, List.length_append]
  omega
theorem getD_lt {b : List Nat} (hb : ∀ c ∈ b, c < 256) {k : Nat} (hk : k < b.length) : b.getD k 0 < 256 := hb _ (by
  rw [List.getD_eq_getElem?_getD, List.getElem?_eq_getElem hk]
  exact List.getElem_mem _)
theorem set_lt {b : List Nat} (hb : ∀ c ∈ b, c < 256) {k c : Nat} (hc : c < 256) : ∀ x ∈ b.set k c, x < 256 := fun x hx => by
  rcases List.mem_or_eq_of_mem_set hx with hx | rfl
  · exact hb x hx
  · exact hc

/-- What the walk carries. -/
structure BX (w u : World) (g : Nat) (e : Ent) : Prop where
  ev : EV u g e
  nam : Nam u
  pos : 0 < u.heap.size
  below : Below w.heap.size w u

set_option maxHeartbeats 8000000 in
theorem walk_back (e : Ent) (he : e.ok) (a1 : Int) (c : Nat) (hc256 : c < 256) (w : World) (hw : Nam w) (h0 : 0 < w.heap.size) :
    Calls Tryd.prog 5 #[e.val, .int .i64 a1, .int .u8 (c : Int)] w fun en w' => en = .returned (.bool true) ∧ Below w.heap.size w w' := by
  have HE := Lib.hid he
  have HX1 : Hid (Later (w.alloc (.cells #[.int .i64 e.kd, .int .i64 e.vw, .int .i64 e.id, .int .i64 e.tr, .int .i64 e.fr, .int .i64 e.tl, .int .u32 e.sm, .string ⟨e.tx.toArray⟩] 26)) fun u => BX w u w.heap.size e) := Lib.hid (fun u hu =>
    have hb : Below w.heap.size w u := past (below_box _ _) hu
    ⟨(EV.new w e).below hu, hw.below h0 hb, Nat.lt_of_lt_of_le h0 hb.size, hb⟩)
  clear hw h0 he
  unfold Ent.val str
  go_enter Tryd.func5, Tryd.ntmps5
  go_upto_region 1 with fail
  generalize hg : w.heap.size = g at HX1 ⊢
  generalize w.alloc (.cells #[.int .i64 e.kd, .int .i64 e.vw, .int .i64 e.id, .int .i64 e.tr, .int .i64 e.fr, .int .i64 e.tl, .int .u32 e.sm, .string ⟨e.tx.toArray⟩] 26) = w1 at *
  obtain ⟨c0, c1, c2, c3, c4, c5, c6, c7, _⟩ := HX1.out.now.ev
  have M0 := few_any (row_one e HE.out w1)
  have hb2 : Below w1.heap.size w1 (w1.alloc (.cells #[.int .i64 e.kd, .int .i64 e.vw, .int .i64 e.id, .int .i64 e.tr, .int .i64 e.fr, .int .i64 e.tl, .int .u32 e.sm, .string ⟨e.tx.toArray⟩] 26)) := below_box _ _
  have HX2 := Lib.hid (HX1.out.on hb2)
  clear hg hb2
  by_cases hf : few [e]
  case neg =>
    rw [decide_eq_false hf] at M0
    have HM := Lib.hid M0
    clear hf M0
    go_wp2_with fail
    refine HM.out.mono ?_
    rintro en w2 ⟨rfl, rfl⟩
    clear c0 c1 c2 c3 c4 c5 c6 c7 HM
    go_wp2_with fail
    refine (told_any _ HX2.out.now.nam HX2.out.now.pos).mono ?_
    rintro en w3 ⟨rfl, hb⟩
    have HB := Lib.hid (past HX2.out.now.below hb)
    clear hb HX2 HX1
    go_wp2
    go_ret
    exact ⟨rfl, HB.out⟩
  rw [decide_eq_true hf] at M0
  have HM := Lib.hid M0
  clear hf M0
  have d0 := HX2.out.now.ev.c0
  have d1 := HX2.out.now.ev.c1
  have d2 := HX2.out.now.ev.c2
  have d3 := HX2.out.now.ev.c3
  have d4 := HX2.out.now.ev.c4
  have d5 := HX2.out.now.ev.c5
  have d6 := HX2.out.now.ev.c6
  have d7 := HX2.out.now.ev.c7
  go_wp2_with fail
  refine HM.out.mono ?_
  rintro en w2 ⟨rfl, rfl⟩
  clear HM c0 c1 c2 c3 c4 c5 c6 c7
  generalize w1.alloc (.cells #[.int .i64 e.kd, .int .i64 e.vw, .int .i64 e.id, .int .i64 e.tr, .int .i64 e.fr, .int .i64 e.tl, .int .u32 e.sm, .string ⟨e.tx.toArray⟩] 26) = w2 at *
  clear HX1
  have M1 := may_ent e w2 HE.out HX2.out.now.nam HX2.out.now.pos
  by_cases hm : e.may
  case neg =>
    rw [decide_eq_false hm] at M1
    have HM := Lib.hid M1
    clear hm M1
    go_wp2_with fail
    refine HM.out.mono ?_
    rintro en w3 ⟨rfl, hb⟩
    have HX3 := Lib.hid (HX2.out.on hb)
    clear d0 d1 d2 d3 d4 d5 d6 d7 HM hb HX2
    go_wp2_with fail
    refine (told_any _ HX3.out.now.nam HX3.out.now.pos).mono ?_
    rintro en w4 ⟨rfl, hb⟩
    have HB := Lib.hid (past HX3.out.now.below hb)
    clear hb HX3
    go_wp2
    go_ret
    exact ⟨rfl, HB.out⟩
  rw [decide_eq_true hm] at M1
  have HM := Lib.hid M1
  have HMAY := Lib.hid hm
  clear hm M1
  go_wp2_with fail
  refine HM.out.mono ?_
  rintro en w3 ⟨rfl, hb⟩
  have HX3 := Lib.hid (HX2.out.on hb)
  clear d0 d1 d2 d3 d4 d5 d6 d7 HM hb HX2
  go_upto_region 3 with fail
  have MP : Hid (Calls Tryd.prog 12 #[.agg #[.int .i64 e.kd, .int .i64 e.vw, .int .i64 e.id, .int .i64 e.tr, .int .i64 e.fr, .int .i64 e.tl, .int .u32 e.sm, .string ⟨e.tx.toArray⟩]] w3 (PutEPost e.bytes 0 w3)) := Lib.hid (by
    have h := put_ent e w3 HE.out HX3.out.now.nam HX3.out.now.pos
    have hp : e.put = (e.bytes, 0) := by unfold Ent.put; rw [if_pos HMAY.out]
    rw [hp] at h
    exact h)
  obtain ⟨b, hbb⟩ : ∃ b, b = e.bytes := ⟨_, rfl⟩
  have HBB := Lib.hid hbb
  obtain ⟨nb, hnb⟩ : ∃ nb, nb = b.length := ⟨_, rfl⟩
  have hlen0 : 0 < nb ∧ nb ≤ 400 := by rw [hnb, hbb]; exact ⟨bytes_len e, bytes_short HMAY.out HE.out⟩
  unfold PutEPost at MP
  rw [← hbb] at MP
  rw [← hnb] at MP
  have HNB := Lib.hid hnb
  clear hbb hnb
  obtain ⟨c0, c1, c2, c3, c4, c5, c6, c7, _⟩ := HX3.out.now.ev
  go_wp2_with fail
  refine MP.out.mono ?_
  rintro en w4 ⟨V1, cp1, rfl, hr, hb, _⟩
  have HX4 := Lib.hid (HX3.out.on hb)
  have HBT := Lib.hid hr.bytes.1
  have HR4 : Hid (Later w4 fun u => BRow u V1 nb cp1 b) := Lib.hid (fun u hu => hr.below hu)
  clear c0 c1 c2 c3 c4 c5 c6 c7 hr hb HX3 MP
  have MG : Hid (Calls Tryd.prog 14 #[.slice V1 nb cp1] w4 fun en w' => en = .returned (.tuple #[.agg #[.int .i64 e.kd, .int .i64 e.vw, .int .i64 e.id, .int .i64 e.tr, .int .i64 e.fr, .int .i64 e.tl, .int .u32 e.sm, .string ⟨e.tx.toArray⟩], .int .i64 0]) ∧ Below w4.heap.size w4 w') := Lib.hid (by
    have h := get_ent HR4.out.now (by omega) HX4.out.now.nam HX4.out.now.pos
    unfold GetEPost at h
    rw [HBB.out, get_bytes HMAY.out HE.out] at h
    exact h)
  go_wp2_with fail
  refine MG.out.mono ?_
  rintro en w5 ⟨rfl, hb⟩
  clear MG
  go_upto_region 5 with fail
  have hb_ : Below w5.heap.size w5 (w5.alloc (.cells #[.int .i64 e.kd, .int .i64 e.vw, .int .i64 e.id, .int .i64 e.tr, .int .i64 e.fr, .int .i64 e.tl, .int .u32 e.sm, .string ⟨e.tx.toArray⟩] 26)) := below_box _ _
  have HX6 := Lib.hid ((HX4.out.on hb).on hb_)
  have HR6 := Lib.hid ((HR4.out.on hb).on hb_)
  have HY6 : Hid (EV (w5.alloc (.cells #[.int .i64 e.kd, .int .i64 e.vw, .int .i64 e.id, .int .i64 e.tr, .int .i64 e.fr, .int .i64 e.tl, .int .u32 e.sm, .string ⟨e.tx.toArray⟩] 26)) w5.heap.size e) := Lib.hid (EV.new w5 e)
  clear hb hb_ HX4 HR4
  generalize w5.alloc (.cells #[.int .i64 e.kd, .int .i64 e.vw, .int .i64 e.id, .int .i64 e.tr, .int .i64 e.fr, .int .i64 e.tl, .int .u32 e.sm, .string ⟨e.tx.toArray⟩] 26) = w6 at *
  generalize w5.heap.size = g5 at *
  obtain ⟨c0, c1, c2, c3, c4, c5, c6, c7, _⟩ := HX6.out.now.ev
  obtain ⟨y0, y1, y2, y3, y4, y5, y6, y7, _⟩ := HY6.out
  have hq := ent_neq e e
  rw [decide_eq_false (fun h => h rfl)] at hq
  unfold Ent.val str at hq
  have i0 : ((nb : Int) == 0) = false := by simp; omega
  have i1 : ¬ (nb : Int) = 0 := by omega
  go_upto_region 7 with fail
  clear c0 c1 c2 c3 c4 c5 c6 c7 y0 y1 y2 y3 y4 y5 y6 y7 hq HY6
  obtain ⟨U4, hU4⟩ : ∃ U, IntKind.u64.wrap a1 = U := ⟨_, rfl⟩
  have hU40 : 0 ≤ U4 := by rw [← hU4, IntKind.wrap_u64]; omega
  obtain ⟨y, hy, hy0, hy1⟩ : ∃ y : Int, U4.tmod (nb : Int) = y ∧ 0 ≤ y ∧ y < (nb : Int) := ⟨_, rfl, Int.tmod_nonneg _ hU40, Int.tmod_lt_of_pos _ (by omega)⟩
  obtain ⟨k, rfl⟩ : ∃ k : Nat, y = (k : Int) := ⟨y.toNat, by omega⟩
  have k1 : IntKind.u64.wrap (nb : Int) = (nb : Int) := by rw [IntKind.wrap_u64]; omega
  have k2 : IntKind.u64.wrap (k : Int) = (k : Int) := by rw [IntKind.wrap_u64]; omega
  have k3 : IntKind.i64.wrap (k : Int) = (k : Int) := by rw [IntKind.wrap_i64]; omega
  have hkn : k < nb := by omega
  obtain ⟨bb, bo, hV, hcells⟩ := HR6.out.now.bytes.at_ (by rw [← HNB.out]; omega)
  subst hV
  have hcap := HR6.out.now.le
  have hs1 := fun w => sliceB_hi (A := some ⟨bb, bo, none⟩) (n := nb) (k := k) (cap := cp1) (by omega) w
  have MF : Hid (Calls Tryd.prog 14 #[.slice (some ⟨bb, bo, none⟩) k cp1] w6 fun en w' => en = .returned (.tuple #[.agg #[.int .i64 0, .int .i64 0, .int .i64 0, .int .i64 0, .int .i64 0, .int .i64 0, .int .u32 0, .string ⟨#[]⟩], .int .i64 2]) ∧ Below w6.heap.size w6 w') := Lib.hid (by
    have h := get_ent (HR6.out.now.take (show k ≤ nb by omega)) (by omega) HX6.out.now.nam HX6.out.now.pos
    unfold GetEPost at h
    have hcut : getE2 (b.take k) = (Ent.zero, 2) := get_not (by
      rw [HBB.out, get_front HMAY.out HE.out (by rw [← HBB.out]; exact HBT.out) (by rw [← HBB.out, ← HNB.out]; omega) (by rw [← HBB.out, ← HNB.out]; exact hkn)]
      decide)
    rw [hcut] at h
    exact h)
  clear hU40 hcells
  go_wp2_with fail
  refine MF.out.mono ?_
  rintro en w7 ⟨rfl, hb⟩
  clear MF hs1
  go_upto_region 9 with fail
  have hb_ : Below w7.heap.size w7 (w7.alloc (.cells #[.int .i64 0, .int .i64 0, .int .i64 0, .int .i64 0, .int .i64 0, .int .i64 0, .int .u32 0, .string ⟨#[]⟩] 26)) := below_box _ _
  have HX8 := Lib.hid ((HX6.out.on hb).on hb_)
  have HR8 := Lib.hid ((HR6.out.on hb).on hb_)
  clear hb hb_ HX6 HR6
  generalize (w7.alloc (.cells #[.int .i64 0, .int .i64 0, .int .i64 0, .int .i64 0, .int .i64 0, .int .i64 0, .int .u32 0, .string ⟨#[]⟩] 26)) = w8 at *
  generalize w7.heap.size = g7 at *
  have hbr8 : BRow (w8.alloc (.cells #[] 5)) (some ⟨bb, bo, none⟩) nb cp1 b := HR8.out _ (below_box _ _)
  have HO8 := Lib.hid (own_empty w8)
  go_wp2_with (at_builtin; refine wpList_append_brow rfl _ _ rfl w8.heap.size _ 0 nb [] b rfl HO8.out (some ⟨bb, bo, none⟩) cp1 rfl hbr8 ?c1 ?c2 ?_)
  case c1 => omega
  case c2 => simp
  intro v9 w9 hown hg
  have hb9 : Below w8.heap.size w8 w9 := (past_alloc (Below.refl _ _) _).grown hg (by simp) (fun k e => by
    simp only [Value.ownBlock, Option.some.injEq] at e
    omega)
  have HO9 : Hid (w9.ownsRow w8.heap.size 5 1 v9 nb (bytesV b)) := Lib.hid hown
  have HB9 := Lib.hid hb9
  clear hown hg hb9 hbr8 HO8
  have HOL : Hid ((w9.alloc (.cells #[.int .u8 (c : Int)] 5)).ownsRow w8.heap.size 5 1 v9 nb (bytesV b)) := Lib.hid (HO9.out.alloc _)
  have hlit := brow_lit w9 c hc256
  go_wp2_with (at_builtin; refine wpList_append_brow rfl _ _ rfl w8.heap.size v9 nb 1 b [c] rfl HOL.out _ _ rfl hlit ?c1 ?c2 ?_)
  case c1 => omega
  case c2 => have := HB9.out.size; simp; omega
  intro v10 w10 hown hg
  have hb10 : Below w8.heap.size w8 w10 := (past_alloc HB9.out _).grown hg (by have := HB9.out.size; simp; omega) (fun k e => (HO9.out.lt k e).1)
  have HX10 := Lib.hid (HX8.out.on hb10)
  have HR10 := Lib.hid (HR8.out.on hb10)
  have hbc : ∀ d ∈ b ++ [c], d < 256 := fun d hd => by
    rcases List.mem_append.1 hd with hd | hd
    · exact HBT.out d hd
    · obtain rfl : d = c := by simpa using hd
      exact hc256
  obtain ⟨V10, cp10, rfl, hr10, _⟩ := brow_of_own hown hbc
  have HV10 := Lib.hid hr10
  have MB : Hid (Calls Tryd.prog 14 #[.slice V10 (nb + 1) cp10] w10 fun en w' => en = .returned (.tuple #[.agg #[.int .i64 0, .int .i64 0, .int .i64 0, .int .i64 0, .int .i64 0, .int .i64 0, .int .u32 0, .string ⟨#[]⟩], .int .i64 2]) ∧ Below w10.heap.size w10 w') := Lib.hid (by
    have h := get_ent HV10.out (by omega) HX10.out.now.nam HX10.out.now.pos
    unfold GetEPost at h
    have hcut : getE2 (b ++ [c]) = (Ent.zero, 2) := get_not (by
      rw [HBB.out, get_behind HMAY.out HE.out (by rw [← HBB.out]; exact HBT.out) (by rw [← HBB.out, ← HNB.out]; omega) hc256]
      decide)
    rw [hcut] at h
    exact h)
  clear hown hg hb10 hlit HOL HO9 HB9 HX8 HR8 hr10 HV10 hbc
  go_wp2_with fail
  refine MB.out.mono ?_
  rintro en w11 ⟨rfl, hb⟩
  clear MB
  go_upto_region 10 with fail
  have hb_ : Below w11.heap.size w11 (w11.alloc (.cells #[.int .i64 0, .int .i64 0, .int .i64 0, .int .i64 0, .int .i64 0, .int .i64 0, .int .u32 0, .string ⟨#[]⟩] 26)) := below_box _ _
  have HX12 := Lib.hid ((HX10.out.on hb).on hb_)
  have HR12 := Lib.hid ((HR10.out.on hb).on hb_)
  clear hb hb_ HX10 HR10
  generalize (w11.alloc (.cells #[.int .i64 0, .int .i64 0, .int .i64 0, .int .i64 0, .int .i64 0, .int .i64 0, .int .u32 0, .string ⟨#[]⟩] 26)) = w12 at *
  generalize w11.heap.size = g11 at *
  have hbr12 : BRow (w12.alloc (.cells #[] 5)) (some ⟨bb, bo, none⟩) nb cp1 b := HR12.out _ (below_box _ _)
  have HO12 := Lib.hid (own_empty w12)
  go_wp2_with (at_builtin; refine wpList_append_brow rfl _ _ rfl w12.heap.size _ 0 nb [] b rfl HO12.out (some ⟨bb, bo, none⟩) cp1 rfl hbr12 ?c1 ?c2 ?_)
  case c1 => omega
  case c2 => simp
  intro v13 w13 hown hg
  have hb13 : Below w12.heap.size w12 w13 := (past_alloc (Below.refl _ _) _).grown hg (by simp) (fun k e => by
    simp only [Value.ownBlock, Option.some.injEq] at e
    omega)
  have hown2 : w13.ownsRow w12.heap.size 5 1 v13 nb (bytesV b) := hown
  obtain ⟨gc, cc, rfl, hgc, hgl⟩ := hown2.form (by omega)
  have hcell := hown2.cellAt k (by omega)
  have hfz := hown2.frozenAt k
  have hkb : k < b.length := by rw [← HNB.out]; exact hkn
  have hgt : (bytesV b)[k]? = some (.int .u8 ((b.getD k 0 : Nat) : Int)) := by
    unfold bytesV
    rw [List.getElem?_map, List.getElem?_eq_getElem hkb, List.getD_eq_getElem?_getD, List.getElem?_eq_getElem hkb]
    rfl
  rw [hgt] at hcell
  obtain ⟨d, hd⟩ : ∃ d, b.getD k 0 = d := ⟨_, rfl⟩
  rw [hd] at hcell
  have hst := (hown2.stored k (.int .u8 (c : Int))).1
  rw [bytesV_set] at hst
  have hbs : Below w12.heap.size w12 (w13.setCell ⟨gc, k, none⟩ (.int .u8 (c : Int))) := hb13.setCell hgc _
  have HST := Lib.hid hst
  have HX14 := Lib.hid (HX12.out.on hbs)
  have HR14 := Lib.hid (HR12.out.on hbs)
  have HD := Lib.hid hd
  have i2 : (k : Int) < (nb : Int) := by omega
  clear hown hown2 hg hb13 hst hbs hgt hd hbr12 HO12 HX12 HR12
  go_upto_region 12 with fail
  generalize w13.setCell ⟨gc, k, none⟩ (.int .u8 (c : Int)) = w14 at *
  have hbr : BRow w14 (some ⟨gc, 0, none⟩) nb cc (b.set k c) := brow_of_own0 HST.out (set_lt HBT.out hc256)
  obtain ⟨G, hG⟩ : ∃ G, G = getE2 (b.set k c) := ⟨_, rfl⟩
  obtain ⟨y, yc⟩ := G
  have hturn : yc = 0 → (y = e ↔ c = d) := fun h => by
    have hT := get_turned HMAY.out HE.out (k := k) (by rw [← HBB.out]; exact hkb) c
    rw [← HBB.out, ← hG, HD.out] at hT
    exact hT h
  have hyc : yc = 0 ∨ yc = 2 := by
    unfold getE2 at hG
    split at hG
    · exact .inl (Prod.mk.inj hG).2
    · exact .inr (Prod.mk.inj hG).2
  have MG : Hid (Calls Tryd.prog 14 #[.slice (some ⟨gc, 0, none⟩) nb cc] w14 fun en w' => en = .returned (.tuple #[.agg #[.int .i64 y.kd, .int .i64 y.vw, .int .i64 y.id, .int .i64 y.tr, .int .i64 y.fr, .int .i64 y.tl, .int .u32 y.sm, .string ⟨y.tx.toArray⟩], .int .i64 yc]) ∧ Below w14.heap.size w14 w') := Lib.hid (by
    have h := get_ent hbr (by omega) HX14.out.now.nam HX14.out.now.pos
    unfold GetEPost at h
    rw [← hG] at h
    exact h)
  have HT := Lib.hid hturn
  clear hbr hG hturn hcell hfz HST hkb
  go_wp2_with fail
  refine MG.out.mono ?_
  rintro en w15 ⟨rfl, hb⟩
  clear MG
  go_upto_region 13 with fail
  have hb_ : Below w15.heap.size w15 (w15.alloc (.cells #[.int .i64 y.kd, .int .i64 y.vw, .int .i64 y.id, .int .i64 y.tr, .int .i64 y.fr, .int .i64 y.tl, .int .u32 y.sm, .string ⟨y.tx.toArray⟩] 26)) := below_box _ _
  have HX16 := Lib.hid ((HX14.out.on hb).on hb_)
  have HR16 := Lib.hid ((HR14.out.on hb).on hb_)
  have HY16 : Hid (Later (w15.alloc (.cells #[.int .i64 y.kd, .int .i64 y.vw, .int .i64 y.id, .int .i64 y.tr, .int .i64 y.fr, .int .i64 y.tl, .int .u32 y.sm, .string ⟨y.tx.toArray⟩] 26)) fun u => EV u w15.heap.size y) := Lib.hid (fun u hu => (EV.new w15 y).below hu)
  clear hb hb_ HX14 HR14
  generalize (w15.alloc (.cells #[.int .i64 y.kd, .int .i64 y.vw, .int .i64 y.id, .int .i64 y.tr, .int .i64 y.fr, .int .i64 y.tl, .int .u32 y.sm, .string ⟨y.tx.toArray⟩] 26)) = w16 at *
  generalize w15.heap.size = g15 at *
  have E0 := fun u : SubB w16 => (HX16.out u.w u.le).ev.c0
  have Y0 := fun u : SubB w16 => (HY16.out u.w u.le).c0
  have E1 := fun u : SubB w16 => (HX16.out u.w u.le).ev.c1
  have Y1 := fun u : SubB w16 => (HY16.out u.w u.le).c1
  have E2 := fun u : SubB w16 => (HX16.out u.w u.le).ev.c2
  have Y2 := fun u : SubB w16 => (HY16.out u.w u.le).c2
  have E3 := fun u : SubB w16 => (HX16.out u.w u.le).ev.c3
  have Y3 := fun u : SubB w16 => (HY16.out u.w u.le).c3
  have E4 := fun u : SubB w16 => (HX16.out u.w u.le).ev.c4
  have Y4 := fun u : SubB w16 => (HY16.out u.w u.le).c4
  have E5 := fun u : SubB w16 => (HX16.out u.w u.le).ev.c5
  have Y5 := fun u : SubB w16 => (HY16.out u.w u.le).c5
  have E6 := fun u : SubB w16 => (HX16.out u.w u.le).ev.c6
  have Y6 := fun u : SubB w16 => (HY16.out u.w u.le).c6
  have E7 := fun u : SubB w16 => (HX16.out u.w u.le).ev.c7
  have Y7 := fun u : SubB w16 => (HY16.out u.w u.le).c7
  have B0 : ∀ u : SubB w16, u.w.cell? ⟨bb, bo + k, none⟩ = some (.int .u8 (d : Int)) := fun u => by
    obtain ⟨b2, o2, he2, hc2⟩ := (HR16.out u.w u.le).bytes.at_ (by rw [← HNB.out]; omega)
    injection he2 with he2
    injection he2 with e1 e2
    subst e1 e2
    have h := hc2 k (by rw [← HNB.out]; exact hkn)
    rw [HD.out] at h
    exact h
  have N0 : Hid (∀ u : SubB w16, Calls Tryd.prog 9 #[] u.w fun en w' => en = .returned (.bool true) ∧ Below u.w.heap.size u.w w') := Lib.hid (fun u => told_any u.w (HX16.out u.w u.le).nam (HX16.out u.w u.le).pos)
  have HB : Hid (∀ u : SubB w16, Below w.heap.size w u.w) := Lib.hid (fun u => (HX16.out u.w u.le).below)
  have hq := ent_eql y e
  unfold Ent.val str at hq
  clear HX16 HR16 HY16
  rcases hyc with rfl | rfl
  · by_cases hcd : c = d
    · rw [decide_eq_true ((HT.out rfl).2 hcd)] at hq
      subst hcd
      clear HT
      refine wp_region_calm (by kernel_rfl) (by kernel_rfl) ?_
      (try simp only [List.append])
      repeat (go_big_quiet_step ((go_at_call 9; exact calm_call (N0.out _))))
      refine wpQuiet_nil ?_
      rintro _ ⟨u, rfl⟩
      clear E0 E1 E2 E3 E4 E5 E6 E7 Y0 Y1 Y2 Y3 Y4 Y5 Y6 Y7 B0 N0
      go_wp2
      go_ret
      exact ⟨rfl, HB.out u⟩
    · rw [decide_eq_false (fun h => hcd ((HT.out rfl).1 h))] at hq
      have n1 : ((c : Int) == (d : Int)) = false := by simp; omega
      clear HT hcd
      refine wp_region_calm (by kernel_rfl) (by kernel_rfl) ?_
      (try simp only [List.append])
      repeat (go_big_quiet_step ((go_at_call 9; exact calm_call (N0.out _))))
      refine wpQuiet_nil ?_
      rintro _ ⟨u, rfl⟩
      clear E0 E1 E2 E3 E4 E5 E6 E7 Y0 Y1 Y2 Y3 Y4 Y5 Y6 Y7 B0 N0
      go_wp2
      go_ret
      exact ⟨rfl, HB.out u⟩
  · clear HT hq
    refine wp_region_calm (by kernel_rfl) (by kernel_rfl) ?_
    (try simp only [List.append])
    repeat (go_big_quiet_step ((go_at_call 9; exact calm_call (N0.out _))))
    refine wpQuiet_nil ?_
    rintro _ ⟨u, rfl⟩
    clear E0 E1 E2 E3 E4 E5 E6 E7 Y0 Y1 Y2 Y3 Y4 Y5 Y6 Y7 B0 N0
    go_wp2
    go_ret
    exact ⟨rfl, HB.out u⟩
end Go.Proofs.YtimjaohhgdkojaaDoor
