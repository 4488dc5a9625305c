/-
  Get: the entry whose bytes these are, of any bytes; nothing that was there is written.
-/
import Derived.Test.YtdpoahjgdndnhaaDoorERead
import Derived.Test.YtdpoahjgdndnhaaDoorEPut
set_option maxRecDepth 100000
namespace Go.Proofs.YtdpoahjgdndnhaaDoor
open Go.RowKit
attribute [local go_sem ↓] Go.wp_at_zero Go.wp_at_succ
set_option linter.unusedVariables false

def GetEPost (w : World) (bs : List Nat) (en : Ending) (w' : World) : Prop := en = .returned (.tuple #[(getE2 bs).1.val, .int .i64 (getE2 bs).2]) ∧ Below w.heap.size w w'

theorem textT_len (bs : List Nat) : (textT bs).length ≤ bs.length := by
  unfold textT bytesU
  split
  · simp
  · have := numT_len bs
    simp only [List.length_map, List.length_take]
    omega
theorem readE_ok {bs : List Nat} (hb : ∀ c ∈ bs, c < 256) (hl : bs.length ≤ 140737488355328) : (readE bs).ok := by
  have h0 : In64 0 := by unfold In64; omega
  cases bs with
  | nil => unfold readE Ent.zero Ent.ok; exact ⟨h0, h0, h0, h0, h0, h0, by dsimp only; omega, by simp⟩
  | cons c r =>
    have hc : c < 256 := hb c (by simp)
    have hr : ∀ c ∈ r, c < 256 := fun d hd => hb d (by simp [hd])
    have hl' : r.length < 140737488355328 := by simp at hl; omega
    have s1 := numT_sub hr
    have s2 := numT_sub s1
    have s3 := numT_sub s2
    have s4 := numT_sub s3
    have s5 := numT_sub s4
    have v1 := toI_in _ (numT_lt hr)
    have v2 := toI_in _ (numT_lt s1)
    have v3 := toI_in _ (numT_lt s2)
    have v4 := toI_in _ (numT_lt s3)
    have v5 := toI_in _ (numT_lt s4)
    have i1 : In64 1 := by unfold In64; omega
    have i2 : In64 2 := by unfold In64; omega
    have i4 : In64 4 := by unfold In64; omega
    have ic : In64 (c : Int) := by unfold In64; omega
    have t1 : (textT (numT r).2).length < 4611686018427387900 := by
      have := textT_len (numT r).2
      have := numT_len r
      omega
    unfold readE Ent.ok
    simp only
    split
    · exact ⟨i1, v1, v2, v3, v4, v5, by dsimp only; omega, by simp⟩
    · split
      · exact ⟨i2, v1, v2, h0, h0, h0, by dsimp only; omega, by simp⟩
      · split
        · exact ⟨i4, v1, h0, h0, h0, h0, by dsimp only; omega, t1⟩
        · exact ⟨ic, v1, h0, h0, h0, h0, by dsimp only; omega, by simp⟩

set_option maxHeartbeats 4000000 in
theorem get_ent {A : Option Addr} {n cap : Nat} {bs : List Nat} {w : World} (h : BRow w A n cap bs) (hl : n ≤ 140737488355328) (hw : Nam w) (hn : 0 < w.heap.size) : Calls Tryd.prog 16 #[.slice A n cap] w (GetEPost w bs) := by
  have hok : (readE bs).ok := readE_ok h.bytes.1 (by rw [h.len]; exact hl)
  have HOK := Lib.hid hok
  have HU : Hid (∀ u, Below w.heap.size w u → Nam u ∧ 0 < u.heap.size) := Lib.hid (fun u hu => ⟨hw.below hn hu, Nat.lt_of_lt_of_le hn hu.size⟩)
  obtain ⟨W1, hW1⟩ : ∃ W1, W1 = w.alloc (.cells #[.int .i64 0, .int .i64 0, .int .i64 0, .int .i64 0, .int .i64 0, .int .i64 0, .int .u32 0, .string ⟨#[]⟩] 25) := ⟨_, rfl⟩
  have hb1 : Below w.heap.size w W1 := by rw [hW1]; exact below_box _ _
  have hz1 : EV W1 w.heap.size Ent.zero := by rw [hW1]; exact EV.new w Ent.zero
  have HB1 := Lib.hid hb1
  have HZ1 := Lib.hid hz1
  have HW1 := Lib.hid hW1
  have HR := Lib.hid h
  obtain ⟨E, hE⟩ : ∃ E, E = readE bs := ⟨_, rfl⟩
  have M1 := Lib.hid (read_ent (h.below hb1) hl)
  unfold ReadPost at M1
  unfold GetEPost
  obtain ⟨G, hG⟩ : ∃ G, G = getE2 bs := ⟨_, rfl⟩
  rw [← hG]
  unfold getE2 at hG
  rw [← hE] at M1 HOK hG
  have HG := Lib.hid hG
  clear hG
  clear hW1 hb1 hz1 h hok hw hE
  unfold Ent.val str at M1
  go_enter Tryd.func16, Tryd.ntmps16
  go_upto_region 1 with fail
  rw [← HW1.out]
  go_wp2_with fail
  refine M1.out.mono ?_
  rintro en W2 ⟨rfl, hb2⟩
  clear M1 HW1
  obtain ⟨W3, hW3⟩ : ∃ W3, W3 = W2.alloc (.cells #[.int .i64 E.kd, .int .i64 E.vw, .int .i64 E.id, .int .i64 E.tr, .int .i64 E.fr, .int .i64 E.tl, .int .u32 E.sm, .string ⟨E.tx.toArray⟩] 25) := ⟨_, rfl⟩
  have hb23 : Below W2.heap.size W2 W3 := by rw [hW3]; exact below_box _ _
  have hv3 : EV W3 W2.heap.size E := by rw [hW3]; exact EV.new W2 E
  have hb3 : Below w.heap.size w W3 := past (past HB1.out hb2) hb23
  have hz3 : EV W3 w.heap.size Ent.zero := (HZ1.out.below hb2).below hb23
  have hlt : w.heap.size < W2.heap.size := Nat.lt_of_lt_of_le HZ1.out.lt hb2.size
  have M2 := Lib.hid (put_ent E W3 HOK.out (HU.out _ hb3).1 (HU.out _ hb3).2)
  have HW3 := Lib.hid hW3
  have HB3 := Lib.hid hb3
  have HZ3 := Lib.hid hz3
  have HV3 := Lib.hid hv3
  have c0 := hv3.c0
  have c1 := hv3.c1
  have c2 := hv3.c2
  have c3 := hv3.c3
  have c4 := hv3.c4
  have c5 := hv3.c5
  have c6 := hv3.c6
  have c7 := hv3.c7
  clear hW3 hb23 hb3 hz3 hv3 hb2 HB1 HZ1
  unfold Ent.val str at M2
  go_upto_region 2 with fail
  rw [← HW3.out]
  clear HW3
  go_wp2_with fail
  refine M2.out.mono ?_
  rintro en W4 ⟨A4, cap4, rfl, hr4, hb4, hn4⟩
  clear M2 c0 c1 c2 c3 c4 c5 c6 c7 hn4
  have hz4 := HZ3.out.below hb4
  have z0 := hz4.c0
  have z1 := hz4.c1
  have z2 := hz4.c2
  have z3 := hz4.c3
  have z4 := hz4.c4
  have z5 := hz4.c5
  have z6 := hz4.c6
  have z7 := hz4.c7
  have k0 := hz4.fz 0 (by decide)
  have k1 := hz4.fz 1 (by decide)
  have k2 := hz4.fz 2 (by decide)
  have k3 := hz4.fz 3 (by decide)
  have k4 := hz4.fz 4 (by decide)
  have k5 := hz4.fz 5 (by decide)
  have k6 := hz4.fz 6 (by decide)
  have k7 := hz4.fz 7 (by decide)
  have hbf : Below w.heap.size w W4 := past HB3.out hb4
  have HB4 := Lib.hid hbf
  have HV4 := Lib.hid (HV3.out.below hb4)
  have M3 := Lib.hid (equalB_any hr4 (HR.out.below hbf))
  clear hz4 hbf hb4 hr4
  by_cases hm : E.may
  · have hput : E.put = (E.bytes, 0) := by unfold Ent.put; rw [if_pos hm]
    rw [hput] at M3 ⊢
    simp only at M3 ⊢
    have hg := HG.out
    rw [hput] at hg
    have HP := Lib.hid hg
    clear hput hm hg
    generalize E.bytes = P at *
    generalize P.length = pl at *
    by_cases he : P = bs
    · have hd : decide (P = bs) = true := decide_eq_true he
      rw [hd] at M3
      have HE := Lib.hid he
      clear he hd
      have c0 := HV4.out.c0
      have c1 := HV4.out.c1
      have c2 := HV4.out.c2
      have c3 := HV4.out.c3
      have c4 := HV4.out.c4
      have c5 := HV4.out.c5
      have c6 := HV4.out.c6
      have c7 := HV4.out.c7
      go_wp2_with fail
      refine M3.out.mono ?_
      rintro en W5 ⟨rfl, rfl⟩
      go_wp2
      refine bodyPost_ret (v := .tuple #[E.val, .int .i64 0]) ?_ rfl ⟨?_, ?_⟩
      · simp [results, Tryd.results16, go_sem, Ent.val, str, z0, z1, z2, z3, z4, z5, z6, z7]
      · rw [HP.out, HE.out, if_pos rfl]
      · exact below_set8 HB4.out (Nat.le_refl _) _ _ _ _ _ _ _ _
    · have hd : decide (P = bs) = false := decide_eq_false he
      rw [hd] at M3
      have HE := Lib.hid he
      clear he hd
      go_wp2_with fail
      refine M3.out.mono ?_
      rintro en W5 ⟨rfl, rfl⟩
      go_wp2
      refine bodyPost_ret (v := .tuple #[Ent.zero.val, .int .i64 2]) ?_ rfl ⟨?_, ?_⟩
      · simp [results, Tryd.results16, go_sem, Ent.val, str, z0, z1, z2, z3, z4, z5, z6, z7, Ent.zero]
      · rw [HP.out, if_neg (fun e => HE.out (Prod.mk.inj e).1)]
      · exact below_set8 HB4.out (Nat.le_refl _) _ _ _ _ _ _ _ _
  · have hput : E.put = ([], 1) := by unfold Ent.put; rw [if_neg hm]
    rw [hput] at M3 ⊢
    simp only at M3 ⊢
    have hg := HG.out
    rw [hput, if_neg (fun e => by have := (Prod.mk.inj e).2; omega)] at hg
    clear hput hm M3
    subst hg
    go_wp2
    refine bodyPost_ret (v := .tuple #[Ent.zero.val, .int .i64 2]) ?_ rfl ⟨?_, ?_⟩
    · simp [results, Tryd.results16, go_sem, Ent.val, str, z0, z1, z2, z3, z4, z5, z6, z7, Ent.zero]
    · rfl
    · exact below_set8 HB4.out (Nat.le_refl _) _ _ _ _ _ _ _ _
end Go.Proofs.YtdpoahjgdndnhaaDoor
