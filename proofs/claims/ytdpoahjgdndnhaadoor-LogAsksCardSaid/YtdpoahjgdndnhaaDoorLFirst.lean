/-
  log.first: the entry whose frame bytes begin with; nothing that was there is written.
-/
import Derived.Test.YtdpoahjgdndnhaaDoorLFrame
import Derived.Test.YtdpoahjgdndnhaaDoorEGetE
import Derived.Test.YtdpoahjgdndnhaaDoorERead
import Derived.Deep.Light
set_option maxRecDepth 100000
namespace Go.Proofs.YtdpoahjgdndnhaaDoor
open Go.RowKit
attribute [local go_sem ↓] Go.wp_at_zero Go.wp_at_succ
set_option linter.unusedVariables false

theorem sliceB_mid {A : Option Addr} {n cap lo hi : Nat} {l : List Nat} {w : World} (hr : BRow w A n cap l) (h : lo ≤ hi) (h2 : hi ≤ n) :
    ∃ A2, (∀ w, (Instr.slice 26 (.slice A n cap) (some (.int .i64 (lo : Int))) (some (.int .i64 (hi : Int))) none).run Tryd.prog w = .ok (.slice A2 (hi - lo) (cap - lo)) w) ∧ BRow w A2 (hi - lo) (cap - lo) ((l.drop lo).take (hi - lo)) := by
  have hc := hr.le
  refine ⟨if cap = lo then A else A.map (·.add (lo * 1)), fun w => ?_, ⟨⟨fun s hs => hr.bytes.1 s (List.mem_of_mem_drop (List.mem_of_mem_take hs)), fun hp => ?_⟩, ?_, ?_, ?_, fun e => ?_⟩⟩
  · rw [run_slice_lh w 26 A n cap Tryd.underlying26 .i64 .i64 (lo : Int) (hi : Int) (by omega) (by omega) (by omega), size29]
    simp [Result.andThen, sliced]
  · rw [List.length_take, List.length_drop, hr.len] at hp
    obtain ⟨b, off, rfl, hcell⟩ := hr.bytes.at_ (by have := hr.len; omega)
    rw [if_neg (by omega)]
    refine ⟨⟨b, off + lo * 1, none⟩, by rw [Option.map_some, addr_add], fun j hj => ?_⟩
    rw [List.length_take, List.length_drop, hr.len] at hj
    rw [addr_add, show off + lo * 1 + j = off + (lo + j) by omega, hcell (lo + j) (by have := hr.len; omega)]
    congr 3
    rw [List.getD_eq_getElem?_getD, List.getD_eq_getElem?_getD, List.getElem?_take, if_pos (by omega), List.getElem?_drop]
  · rw [List.length_take, List.length_drop, hr.len]; omega
  · omega
  · have := hr.max; omega
  · split at e
    · have := hr.nil e; omega
    · have := hr.nil (by cases A with
        | none => rfl
        | some a => simp at e)
      omega
/-- The zero entry's variable. -/
def Z8 : Obj := .cells #[.int .i64 0, .int .i64 0, .int .i64 0, .int .i64 0, .int .i64 0, .int .i64 0, .int .u32 0, .string ⟨#[]⟩] 25
def FirstPost (w : World) (bs : List Nat) (e : Ending) (w' : World) : Prop := e = .returned (.tuple #[(first bs).1.val, .int .i64 ((first bs).2 : Int)]) ∧ Below w.heap.size w w'
def ZA : Value := .agg #[.int .i64 0, .int .i64 0, .int .i64 0, .int .i64 0, .int .i64 0, .int .i64 0, .int .u32 0, .string ⟨#[]⟩]
set_option maxHeartbeats 2000000 in
theorem results_first {w : World} {g : Nat} {e : Ent} (h : EV w g e) (tmps : Array Value) (v : Value) (h2 : tmps.getD 2 undef = .pointer (some ⟨g, 0, none⟩)) (h3 : tmps.getD 3 undef = v) :
    (results Tryd.f60 tmps).run Tryd.prog w = .ok (.tuple #[e.val, v]) w := by
  obtain ⟨c0, c1, c2, c3, c4, c5, c6, c7, _⟩ := h
  rw [results_cell_tmp Tryd.results60]
  simp only [h2, h3]
  simp [go_sem, Ent.val, str, c0, c1, c2, c3, c4, c5, c6, c7]
/-- No frame: the answer is the zero entry, and 0. -/
def NoneP (w : World) (e : Ending) (w' : World) : Prop := e = .returned (.tuple #[Ent.zero.val, .int .i64 0]) ∧ Below w.heap.size w w'
set_option maxHeartbeats 4000000 in
theorem first_bad (A : Option Addr) (n cap : Nat) (w : World) (hx : cap ≤ maxLen ∧ n ≤ cap)
    (h : Hid (∀ u, Below w.heap.size w u → (Calls Tryd.prog 78 #[.slice A n cap, .int .i64 0] u fun e w' => e = .returned (.tuple #[.int .u64 0, .int .i64 0, .int .i64 2]) ∧ u = w'))) :
    Calls Tryd.prog 60 #[.slice A n cap] w (NoneP w) := by
  have hb1 : Below w.heap.size w (w.alloc (.cells #[.int .i64 0, .int .i64 0, .int .i64 0, .int .i64 0, .int .i64 0, .int .i64 0, .int .u32 0, .string ⟨#[]⟩] 25)) := below_box _ _
  have M1 := Lib.hid (h.out _ hb1)
  have HB1 := Lib.hid hb1
  clear h hb1
  go_enter Tryd.func60, Tryd.ntmps60
  go_wp2_with fail
  refine M1.out.mono ?_
  rintro e w2 ⟨rfl, rfl⟩
  clear M1
  go_wp2_with fail
  refine bodyPost_ret (v := .tuple #[Ent.zero.val, .int .i64 0]) ?_ rfl ⟨rfl, HB1.out⟩
  simp [results, Tryd.results60, go_sem, Ent.val, str, Ent.zero]
set_option maxHeartbeats 4000000 in
theorem first_far (A : Option Addr) (n cap v k : Nat) (w : World) (hx : cap ≤ maxLen ∧ n ≤ cap) (hv : v < 18446744073709551616) (hk : k ≤ 10) (hn : n < k + 4 + v) (hl : n ≤ 90000)
    (h : Hid (∀ u, Below w.heap.size w u → (Calls Tryd.prog 78 #[.slice A n cap, .int .i64 0] u fun e w' => e = .returned (.tuple #[.int .u64 (v : Int), .int .i64 (k : Int), .int .i64 0]) ∧ u = w'))) :
    Calls Tryd.prog 60 #[.slice A n cap] w (NoneP w) := by
  have hb1 : Below w.heap.size w (w.alloc (.cells #[.int .i64 0, .int .i64 0, .int .i64 0, .int .i64 0, .int .i64 0, .int .i64 0, .int .u32 0, .string ⟨#[]⟩] 25)) := below_box _ _
  have M1 := Lib.hid (h.out _ hb1)
  have HB1 := Lib.hid hb1
  have i1 : IntKind.i64.wrap ((k : Int) + 4) = ((k + 4 : Nat) : Int) := by rw [IntKind.wrap_i64]; omega
  clear h hb1
  by_cases h1 : n < k + 4
  · have i2 : ((k + 4 : Nat) : Int) > (n : Int) := by omega
    have i3 : decide (((k + 4 : Nat) : Int) > (n : Int)) = true := decide_eq_true i2
    clear hn h1
    generalize k + 4 = k4 at *
    go_enter Tryd.func60, Tryd.ntmps60
    go_wp2_with fail
    refine M1.out.mono ?_
    rintro e w2 ⟨rfl, rfl⟩
    clear M1
    go_wp2_with fail
    refine bodyPost_ret (v := .tuple #[Ent.zero.val, .int .i64 0]) ?_ rfl ⟨rfl, HB1.out⟩
    simp [results, Tryd.results60, go_sem, Ent.val, str, Ent.zero]
  · have i2 : ¬ ((k + 4 : Nat) : Int) > (n : Int) := by omega
    have i3 : decide (((k + 4 : Nat) : Int) > (n : Int)) = false := decide_eq_false i2
    have i4 : IntKind.i64.wrap ((n : Int) - ((k + 4 : Nat) : Int)) = ((n - (k + 4) : Nat) : Int) := by rw [IntKind.wrap_i64]; omega
    have i5 : IntKind.u64.wrap ((n - (k + 4) : Nat) : Int) = ((n - (k + 4) : Nat) : Int) := by rw [IntKind.wrap_u64]; omega
    have i6 : (v : Int) > ((n - (k + 4) : Nat) : Int) := by omega
    have i7 : decide ((v : Int) > ((n - (k + 4) : Nat) : Int)) = true := decide_eq_true i6
    clear hn h1
    generalize n - (k + 4) = m4 at *
    generalize k + 4 = k4 at *
    go_enter Tryd.func60, Tryd.ntmps60
    go_wp2_with fail
    refine M1.out.mono ?_
    rintro e w2 ⟨rfl, rfl⟩
    clear M1
    go_wp2_with fail
    refine bodyPost_ret (v := .tuple #[Ent.zero.val, .int .i64 0]) ?_ rfl ⟨rfl, HB1.out⟩
    simp [results, Tryd.results60, go_sem, Ent.val, str, Ent.zero]
set_option maxHeartbeats 8000000 in
theorem first_is (A : Option Addr) (n cap v k : Nat) (bs : List Nat) (w : World) (hr : BRow w A n cap bs) (hk : k ≤ 10) (hn : k + 4 + v ≤ n) (hl : n ≤ 90000) (hw : Nam w) (h0 : 0 < w.heap.size)
    (h : Hid (∀ u, Below w.heap.size w u → (Calls Tryd.prog 78 #[.slice A n cap, .int .i64 0] u fun e w' => e = .returned (.tuple #[.int .u64 (v : Int), .int .i64 (k : Int), .int .i64 0]) ∧ u = w'))) :
    Calls Tryd.prog 60 #[.slice A n cap] w fun e w' => (e = if frm ((bs.drop (k + 4)).take v) = bs.take (k + 4 + v) ∧ (getE2 ((bs.drop (k + 4)).take v)).2 = 0 then .returned (.tuple #[(getE2 ((bs.drop (k + 4)).take v)).1.val, .int .i64 ((k + 4 + v : Nat) : Int)]) else .returned (.tuple #[Ent.zero.val, .int .i64 0])) ∧ Below w.heap.size w w' := by
  have hmax := hr.max
  have hcap := hr.le
  unfold maxLen at hmax
  have hb1 : Below w.heap.size w (w.alloc (.cells #[.int .i64 0, .int .i64 0, .int .i64 0, .int .i64 0, .int .i64 0, .int .i64 0, .int .u32 0, .string ⟨#[]⟩] 25)) := below_box _ _
  have hz1 : EV (w.alloc (.cells #[.int .i64 0, .int .i64 0, .int .i64 0, .int .i64 0, .int .i64 0, .int .i64 0, .int .u32 0, .string ⟨#[]⟩] 25)) w.heap.size Ent.zero := EV.new w Ent.zero
  have M1 := Lib.hid (h.out _ hb1)
  have HU : Hid (∀ u, Below w.heap.size w u → Nam u ∧ 0 < u.heap.size) := Lib.hid (fun u hu => ⟨hw.below h0 hu, Nat.lt_of_lt_of_le h0 hu.size⟩)
  obtain ⟨K, hK⟩ : ∃ K, K = k + 4 := ⟨_, rfl⟩
  obtain ⟨E, hE⟩ : ∃ E, E = k + 4 + v := ⟨_, rfl⟩
  obtain ⟨A2, hs2, hr2⟩ := sliceB_mid hr (lo := K) (hi := E) (by omega) (by omega)
  have hs1 := fun w => sliceB_hi (A := A) (n := n) (k := E) (cap := cap) (by omega) w
  have eEK : E - K = v := by omega
  rw [eEK] at hs2 hr2
  have i1 : IntKind.i64.wrap ((k : Int) + 4) = (K : Int) := by rw [IntKind.wrap_i64]; omega
  have i2 : ¬ (K : Int) > (n : Int) := by omega
  have i3 : decide ((K : Int) > (n : Int)) = false := decide_eq_false i2
  have i4 : IntKind.i64.wrap ((n : Int) - (K : Int)) = ((n - K : Nat) : Int) := by rw [IntKind.wrap_i64]; omega
  have i5 : IntKind.u64.wrap ((n - K : Nat) : Int) = ((n - K : Nat) : Int) := by rw [IntKind.wrap_u64]; omega
  have i6 : ¬ (v : Int) > ((n - K : Nat) : Int) := by omega
  have i7 : decide ((v : Int) > ((n - K : Nat) : Int)) = false := decide_eq_false i6
  have i8 : IntKind.i64.wrap (v : Int) = (v : Int) := by rw [IntKind.wrap_i64]; omega
  have i9 : IntKind.i64.wrap ((K : Int) + (v : Int)) = (E : Int) := by rw [IntKind.wrap_i64]; omega
  obtain ⟨bq, hbq⟩ : ∃ bq, bq = (bs.drop K).take v := ⟨_, rfl⟩
  obtain ⟨bt, hbt⟩ : ∃ bt, bt = bs.take E := ⟨_, rfl⟩
  rw [← hE, ← hK, ← hbq, ← hbt]
  rw [← hbq] at hr2
  obtain ⟨G, hG⟩ : ∃ G, G = getE2 bq := ⟨_, rfl⟩
  have hyc : G.2 = 0 ∨ G.2 = 2 := by
    rw [hG]
    unfold getE2
    split
    · exact .inl rfl
    · exact .inr rfl
  rw [← hG]
  have HGG := Lib.hid hG
  clear hG
  obtain ⟨y, yc⟩ := G
  simp only at hyc ⊢
  have HYC := Lib.hid hyc
  clear hyc
  obtain ⟨RE, hRE⟩ : ∃ RE, RE = (if frm bq = bt ∧ yc = 0 then Ending.returned (.tuple #[y.val, .int .i64 (E : Int)]) else .returned (.tuple #[Ent.zero.val, .int .i64 0])) := ⟨_, rfl⟩
  rw [← hRE]
  have HRE := Lib.hid hRE
  clear hRE
  have HR : Hid (Later (w.alloc (.cells #[.int .i64 0, .int .i64 0, .int .i64 0, .int .i64 0, .int .i64 0, .int .i64 0, .int .u32 0, .string ⟨#[]⟩] 25)) fun u => BRow u A2 v (cap - K) bq ∧ BRow u A E cap bt ∧ Below w.heap.size w u ∧ EV u w.heap.size Ent.zero) := Lib.hid (fun u hu => ⟨hr2.below (past hb1 hu), by rw [hbt]; exact (hr.take (by omega)).below (past hb1 hu), past hb1 hu, hz1.below hu⟩)
  have HV : Hid (v ≤ 90000) := Lib.hid (by omega)
  clear h hb1 hz1 hw h0 hr hr2 hbq hbt hK hE eEK hn hk hmax hcap hl
  generalize n - K = m4 at *
  generalize cap - K = c4 at *
  generalize hW1 : (w.alloc (.cells #[.int .i64 0, .int .i64 0, .int .i64 0, .int .i64 0, .int .i64 0, .int .i64 0, .int .u32 0, .string ⟨#[]⟩] 25)) = W1 at *
  have HW1 := Lib.hid hW1
  clear hW1
  go_enter Tryd.func60, Tryd.ntmps60
  go_upto_region 1 with fail
  rw [HW1.out]
  clear HW1
  go_wp2_with fail
  refine M1.out.mono ?_
  rintro e w2 ⟨rfl, rfl⟩
  clear M1
  go_upto_region 6 with fail
  have HBD : Hid (∀ m, Below W1.heap.size W1 (W1.drewN m)) := Lib.hid (fun m => below_drewN _ _)
  have m1 : ∀ u, Below W1.heap.size W1 u → _ := fun u hu => framed_any (HR.out u hu).1 HV.out
  have M1 := Lib.hid m1
  have M2 : Hid (∀ u u' g c, Below W1.heap.size W1 u → u'.ownsRow u.heap.size 5 1 (.slice (some ⟨g, 0, none⟩) (frm bq).length c) (frm bq).length (bytesV (frm bq)) → Below u.heap.size u u' →
      Calls Tryd.prog 42 #[.slice (some ⟨g, 0, none⟩) (frm bq).length c, .slice A E cap] u' fun e w' => e = .returned (.bool (decide (frm bq = bt))) ∧ u' = w') := Lib.hid (fun u u' g c hu ho hb => by
    have hh := HR.out u hu
    exact equalB_any (brow_of_own0 ho (frm_byte hh.1.bytes.1)) (hh.2.1.below hb))
  clear m1
  obtain ⟨T, hT⟩ : ∃ T : Bool, decide (frm bq = bt) = T := ⟨_, rfl⟩
  rw [hT] at M2
  have HT := Lib.hid hT
  clear hT
  unfold OwnB at M1
  generalize (frm bq).length = fl at *
  go_region_held3 (fun w' => True) (trivial)
    (first
      | (go_at_call 59; refine (M1.out _ (HBD.out _)).mono ?_; rintro e wt ⟨g, c, rfl, hown, hb⟩)
      | (go_at_call 42; refine (M2.out _ _ _ _ (HBD.out _) hown hb).mono ?_; rintro e wt2 ⟨rfl, rfl⟩))
  have hbt : Below W1.heap.size W1 wt := past (HBD.out _) hb
  obtain ⟨hq, _, hbw, hz⟩ := HR.out _ hbt
  have HB := Lib.hid hbw
  have HZT := Lib.hid hz
  have HRT := Lib.hid (HR.out.on hbt)
  obtain ⟨z0, z1, z2, z3, z4, z5, z6, z7, kk⟩ := hz
  have k0 := kk 0 (by decide)
  have k1 := kk 1 (by decide)
  have k2 := kk 2 (by decide)
  have k3 := kk 3 (by decide)
  have k4 := kk 4 (by decide)
  have k5 := kk 5 (by decide)
  have k6 := kk 6 (by decide)
  have k7 := kk 7 (by decide)
  have M3 := Lib.hid (get_ent hq (by have := HV.out; omega) (HU.out _ hbw).1 (HU.out _ hbw).2)
  clear M1 M2 HBD HR hown hb hbt hbw hs1 kk hq
  cases T with
  | false =>
    go_wp2
    refine bodyPost_ret (v := .tuple #[Ent.zero.val, .int .i64 0]) ?_ rfl ⟨?_, ?_⟩
    · have hz9 := HZT.out.set8 Ent.zero
      unfold Ent.zero at hz9
      dsimp only at hz9
      exact results_first hz9 _ _ rfl rfl
    · rw [HRE.out, if_neg (fun h => by have := HT.out; rw [decide_eq_true h.1] at this; cases this)]
    · exact below_set8 HB.out (Nat.le_refl _) _ _ _ _ _ _ _ _
  | true =>
    have HFR : Hid (frm bq = bt) := Lib.hid (of_decide_eq_true HT.out)
    clear HT z0 z1 z2 z3 z4 z5 z6 z7 k0 k1 k2 k3 k4 k5 k6 k7
    unfold GetEPost at M3
    rw [← HGG.out] at M3
    simp only at M3
    unfold Ent.val str at M3
    go_wp2_with fail
    refine M3.out.mono ?_
    rintro en w5 ⟨rfl, hb5⟩
    clear M3
    go_upto_region 9 with fail
    have hb6 := past hb5 (below_box w5 (.cells #[.int .i64 y.kd, .int .i64 y.vw, .int .i64 y.id, .int .i64 y.tr, .int .i64 y.fr, .int .i64 y.tl, .int .u32 y.sm, .string ⟨y.tx.toArray⟩] 25))
    have hbox := EV.new w5 y
    have hz6 := (HRT.out _ hb6).2.2.2
    have HB6 := Lib.hid (HRT.out _ hb6).2.2.1
    have HZ6 := Lib.hid hz6
    generalize w5.alloc (.cells #[.int .i64 y.kd, .int .i64 y.vw, .int .i64 y.id, .int .i64 y.tr, .int .i64 y.fr, .int .i64 y.tl, .int .u32 y.sm, .string ⟨y.tx.toArray⟩] 25) = w6 at *
    generalize w5.heap.size = g5 at *
    obtain ⟨c0, c1, c2, c3, c4_, c5, c6, c7, _⟩ := hbox
    obtain ⟨z0, z1, z2, z3, z4, z5, z6, z7, kk⟩ := hz6
    have k0 := kk 0 (by decide)
    have k1 := kk 1 (by decide)
    have k2 := kk 2 (by decide)
    have k3 := kk 3 (by decide)
    have k4 := kk 4 (by decide)
    have k5 := kk 5 (by decide)
    have k6 := kk 6 (by decide)
    have k7 := kk 7 (by decide)
    clear HB HRT hb5 hb6 kk
    rcases HYC.out with rfl | rfl
    · clear HYC
      go_wp2
      refine bodyPost_ret (v := .tuple #[y.val, .int .i64 (E : Int)]) ?_ rfl ⟨?_, ?_⟩
      · exact results_first (HZ6.out.set8 y) _ _ rfl rfl
      · rw [HRE.out, if_pos (by first | exact ⟨HFR.out, trivial⟩ | exact ⟨HFR.out, rfl⟩)]
      · exact below_set8 HB6.out (Nat.le_refl _) _ _ _ _ _ _ _ _
    · clear HYC
      go_wp2
      refine bodyPost_ret (v := .tuple #[Ent.zero.val, .int .i64 0]) ?_ rfl ⟨?_, ?_⟩
      · have hz9 := HZ6.out.set8 Ent.zero
        unfold Ent.zero at hz9
        dsimp only at hz9
        exact results_first hz9 _ _ rfl rfl
      · rw [HRE.out, if_neg (fun h => by have := h.2; omega)]
      · exact below_set8 HB6.out (Nat.le_refl _) _ _ _ _ _ _ _ _
theorem dec_len {bs : List Nat} (hb : ∀ c ∈ bs, c < 256) {v k : Nat} (h : dec 0 0 bs = some (v, k)) : v < 18446744073709551616 ∧ k ≤ 10 ∧ k ≤ bs.length := by
  obtain ⟨n, e1, e2, e3, e4, e5, _⟩ := dec_only bs 0 0 v k hb (by omega) h
  have hn : v = n := by simpa using e1
  have h2 : n < 18446744073709551616 := by simpa using e2
  have h3 := enc_len_le h2
  rw [← e5, List.length_take] at h3
  omega
theorem first_any {A : Option Addr} {n cap : Nat} {bs : List Nat} {w : World} (hr : BRow w A n cap bs) (hl : n ≤ 90000) (hw : Nam w) (h0 : 0 < w.heap.size) : Calls Tryd.prog 60 #[.slice A n cap] w (FirstPost w bs) := by
  have hlen := hr.len
  have hx : cap ≤ maxLen ∧ n ≤ cap := ⟨hr.max, hr.le⟩
  have hg : ∀ u, Below w.heap.size w u → _ := fun u hu => get_nat A n cap bs 0 u hlen (hr.below hu).bytes hr.le hr.max (Nat.zero_le _)
  unfold FirstPost first
  match hd : dec 0 0 bs with
  | none =>
    exact first_bad A n cap w hx (Lib.hid fun u hu => by
      have := hg u hu
      rw [List.drop_zero, hd] at this
      exact this)
  | some (v, k) =>
    obtain ⟨d1, d2, d3⟩ := dec_len hr.bytes.1 hd
    have hG : Hid (∀ u, Below w.heap.size w u → (Calls Tryd.prog 78 #[.slice A n cap, .int .i64 0] u fun e w' => e = .returned (.tuple #[.int .u64 (v : Int), .int .i64 (k : Int), .int .i64 0]) ∧ u = w')) := Lib.hid fun u hu => by
      have := hg u hu
      rw [List.drop_zero, hd] at this
      simpa [getE] using this
    simp only
    by_cases hf : n < k + 4 + v
    · rw [if_pos (by omega)]
      exact first_far A n cap v k w hx d1 d2 hf hl hG
    · rw [if_neg (by omega)]
      refine (first_is A n cap v k bs w hr d2 (by omega) hl hw h0 hG).mono ?_
      rintro e w' ⟨he, hb⟩
      refine ⟨?_, hb⟩
      rw [he]
      split <;> rfl
end Go.Proofs.YtdpoahjgdndnhaaDoor
