/-
  Put of a head that may be and a time that may be: what it returns; nothing that was there is written.
-/
import Derived.Test.YtinplchaimejbaaHLeaf
namespace Go.Proofs.Ytinplchaimejbaa
open Go.RowKit
attribute [local go_sem ↓] Go.wp_at_zero Go.wp_at_succ
set_option linter.unusedVariables false

theorem addr_zero (a : Addr) : a.add 0 = a := by
  obtain ⟨b, o, s⟩ := a
  cases s <;> simp [Addr.add]
theorem size30 (w : World) : (Go.sizeOf (Try.prog.elem 23)).run Try.prog w = .ok 2 w := by kernel_rfl
theorem slice_hi {A : Option Addr} {n cap k : Nat} (h : k ≤ cap) (w : World) : (Instr.slice 23 (.slice A n cap) none (some (.int .i64 (k : Int))) none).run Try.prog w = .ok (.slice A k cap) w := by
  rw [run_slice_h w 23 A n cap Try.underlying23 .i64 (k : Int) (by omega) (by omega), size30]
  simp only [Result.andThen, sliced]
  congr 2
  · cases A with
    | none => simp
    | some a =>
      split
      · rfl
      · simp [addr_zero]
theorem slice_lo {A : Option Addr} {n cap k : Nat} {l : List (Int × Int)} {w : World} (hr : Row w A cap l) (hn : l.length = n) (h : k ≤ n) :
    ∃ A2, (∀ w, (Instr.slice 23 (.slice A n cap) (some (.int .i64 (k : Int))) none none).run Try.prog w = .ok (.slice A2 (n - k) (cap - k)) w) ∧ Row w A2 (cap - k) (l.drop k) := by
  have hc := hr.le
  rw [hn] at hc
  refine ⟨if cap = k then A else A.map (·.add (k * 2)), fun w => ?_, ⟨⟨fun s hs => hr.samps.1 s (List.mem_of_mem_drop hs), fun hp => ?_⟩, ?_, ?_, fun e => ?_⟩⟩
  · rw [run_slice_l w 23 A n cap Try.underlying23 .i64 (k : Int) (by omega) (by omega), size30]
    simp [Result.andThen, sliced]
  · rw [List.length_drop] at hp
    obtain ⟨b, off, rfl, _⟩ := hr.samps.2 (by omega)
    rw [if_neg (by omega)]
    have h2 := hr.samps.rest k
    obtain ⟨b', off', e, hcell⟩ := h2.2 (by rw [List.length_drop]; omega)
    exact ⟨b', off', by rw [← e, Option.map_some, addr_add], hcell⟩
  · rw [List.length_drop]; omega
  · have := hr.max; omega
  · split at e
    · have := hr.nil e; omega
    · have := hr.nil (by cases A with
        | none => rfl
        | some a => simp at e)
      omega
theorem row_take {A : Option Addr} {cap k : Nat} {l : List (Int × Int)} {w : World} (hr : Row w A cap l) : Row w A cap (l.take k) := by
  refine ⟨⟨fun s hs => hr.samps.1 s (List.mem_of_mem_take hs), fun hp => ?_⟩, ?_, hr.max, hr.nil⟩
  · rw [List.length_take] at hp
    obtain ⟨b, off, rfl, _⟩ := hr.samps.2 (by omega)
    exact (hr.samps.sub k).2 (by rw [List.length_take]; omega)
  · rw [List.length_take]; have := hr.le; omega

/-- What Put gives back. -/
def PutPost (S : Int) (l : List (Int × Int)) (t v : Int) (w : World) (e : Ending) (w' : World) : Prop :=
  ∃ A' cap' n', e = .returned (.tuple #[.agg #[.int .i64 S, .slice A' n' cap'], .int .i64 (putH ⟨S, l⟩ (t, v)).2]) ∧ (putH ⟨S, l⟩ (t, v)).1.l.length = n' ∧ Out w w' w.heap.size A' cap' (putH ⟨S, l⟩ (t, v)).1.l

theorem put_new_ {S t v c : Int} {n cap' : Nat} {A' : Option Addr} {l l' : List (Int × Int)} {w wz : World} (hp : putH ⟨S, l⟩ (t, v) = (⟨S, l'⟩, c)) (hn : l'.length = n) (hO : Out w wz w.heap.size A' cap' l') :
    PutPost S l t v w (.returned (.tuple #[.agg #[.int .i64 S, .slice A' n cap'], .int .i64 c])) wz := ⟨A', cap', n, by rw [hp], by rw [hp]; exact hn, by rw [hp]; exact hO⟩
theorem put_same {S t v c : Int} {n cap' : Nat} {A' : Option Addr} {l : List (Int × Int)} {w wz : World} (hp : putH ⟨S, l⟩ (t, v) = (⟨S, l⟩, c)) (hn : l.length = n) (hO : Out w wz w.heap.size A' cap' l) :
    PutPost S l t v w (.returned (.tuple #[.agg #[.int .i64 S, .slice A' n cap'], .int .i64 c])) wz := ⟨A', cap', n, by rw [hp], by rw [hp]; exact hn, by rw [hp]; exact hO⟩

set_option maxRecDepth 100000 in
set_option maxHeartbeats 1000000 in
theorem put_any {S t v : Int} {n cap : Nat} {A : Option Addr} {l : List (Int × Int)} {w : World} (hr : Row w A cap l) (hn : l.length = n) (hm : Hd.may ⟨S, l⟩) (ht : inT t) (hv : In64 v) :
    Calls Try.prog 8 #[.agg #[.int .i64 S, .slice A n cap], .agg #[.int .i64 t, .int .i64 v]] w (PutPost S l t v w) := by
  have hS : In64 S := by have := hm.1; have := hm.2.1; simp only at *; unfold In64; omega
  have h64 : n ≤ 64 := by have := hm.2.2.2.1; simp only at *; omega
  have hpair := ((rise_pair l).1 hm.2.2.1).2
  have m1 := fun w' (h : Below w.heap.size w w') => mayH_any hS (hr.below h) hn
  simp only [decide_eq_true hm] at m1
  have M1 := Lib.hid m1
  have MO := Lib.hid (fun w' (h : Below w.heap.size w w') => own_any (S := S) (hr.below h) hn (by omega))
  have MP := Lib.hid (fun w' (h : Below w.heap.size w w') => place_any (t := t) (hr.below h) hn h64 hpair)
  have hcase := Lib.hid (put_cases (s := (t, v)) hm ht)
  have t1 : ¬ t < 0 := by unfold inT at ht; omega
  have t2 : ¬ t ≥ 1099511627776 := by unfold inT at ht; omega
  have HR := Lib.hid hr
  have HN := Lib.hid hn
  have HV := Lib.hid hv
  have HT := Lib.hid ht
  clear m1 hr hn hm ht hv hpair hS
  have hBB : ∀ o o' o2, Below w.heap.size w (((w.alloc o).alloc o').alloc o2) := fun o o' o2 => past (past (below_box _ _) (below_box _ _)) (below_box _ _)
  have HBB := Lib.hid hBB
  clear hBB
  go_enter Try.func8, Try.ntmps8
  go_wp2_with fail
  refine (M1.out _ (HBB.out _ _ _)).mono ?_
  rintro e w2 ⟨rfl, hb2⟩
  have hv0 := (((HVar.new w (.int .i64 S) (.slice A n cap) 25).below (below_box _ (.cells #[.int .i64 t, .int .i64 v] 30))).below (below_box _ (.cells #[.int .i64 0, .slice none 0 0] 25))).below hb2
  have hv1 := ((HVar.new (w.alloc (.cells #[.int .i64 S, .slice A n cap] 25)) (.int .i64 t) (.int .i64 v) 30).below (below_box _ (.cells #[.int .i64 0, .slice none 0 0] 25))).below hb2
  have hv2 := (HVar.new ((w.alloc (.cells #[.int .i64 S, .slice A n cap] 25)).alloc (.cells #[.int .i64 t, .int .i64 v] 30)) (.int .i64 0) (.slice none 0 0) 25).below hb2
  have HB2 := Lib.hid (past (HBB.out _ _ _) hb2)
  have hz := hb2.size
  simp only [World.alloc, Array.size_push] at hv1 hv2 hz
  have HV0 := Lib.hid hv0
  have HV1 := Lib.hid hv1
  have HV2 := Lib.hid hv2
  have HZ := Lib.hid hz
  clear hb2 HBB M1 hv0 hv1 hv2 hz
  have c0 := HV0.out.c0
  have c1 := HV0.out.c1
  have d0 := HV1.out.c0
  have HOW : Hid (∀ w3 A' cap' l, Out w2 w3 w2.heap.size A' cap' l → HVar w3 (w.heap.size + 1 + 1) (.int .i64 0) (.slice none 0 0) ∧ ∀ u u', Out w ((w3.setCell ⟨w.heap.size + 1 + 1, 0, none⟩ u).setCell ⟨w.heap.size + 1 + 1, 1, none⟩ u') w.heap.size A' cap' l) := Lib.hid (fun w3 A' cap' l ho => by
    have hz := HZ.out
    refine ⟨HV2.out.below ho.below, fun u u' => ?_⟩
    exact (((ho.start HB2.out).set_ _ _ (by simp only; omega) (by simp only; omega)).set_ _ _ (by simp only; omega) (by simp only; omega)).low (by omega))
  by_cases h1 : t < S
  · have HP : Hid (putH ⟨S, l⟩ (t, v) = (⟨S, l⟩, 6)) := Lib.hid (by
      rcases hcase.out with ⟨_, e⟩ | ⟨h, _⟩ | ⟨h, _⟩ | ⟨h, _⟩
      · exact e
      all_goals omega)
    go_wp2_with fail
    refine (MO.out _ HB2.out).mono ?_
    rintro e w3 ⟨A', cap', rfl, hout⟩
    obtain ⟨⟨x0, x1, y0, y1⟩, hO⟩ := HOW.out w3 A' cap' _ hout
    have HO := Lib.hid hO
    clear hout hO
    go_wp2
    (try simp only [Exit.inBlock, Exit.then])
    refine bodyPost_ret (v := .tuple #[.agg #[.int .i64 S, .slice A' n cap'], .int .i64 6]) ?_ rfl (put_same HP.out HN.out (HO.out _ _))
    rw [results_cell_tmp rfl]
    go_simp
  go_wp2_with fail
  refine (MP.out _ HB2.out).mono ?_
  rintro e w3 ⟨k, B, rfl, hpl, rfl⟩
  have HPL := Lib.hid hpl
  clear hpl
  cases B
  case true =>
    have HP : Hid (putH ⟨S, l⟩ (t, v) = (⟨S, l⟩, 7)) := Lib.hid (by
      have hh : has t l := of_decide_eq_true HPL.out.1.symm
      rcases hcase.out with ⟨h, e⟩ | ⟨_, _, e⟩ | ⟨_, h, _⟩ | ⟨_, h, _⟩
      · omega
      · exact e
      · exact absurd hh h
      · exact absurd hh h)
    go_wp2_with fail
    refine (MO.out _ HB2.out).mono ?_
    rintro e w3 ⟨A', cap', rfl, hout⟩
    obtain ⟨⟨x0, x1, y0, y1⟩, hO⟩ := HOW.out w3 A' cap' _ hout
    have HO := Lib.hid hO
    clear hout hO
    go_wp2
    (try simp only [Exit.inBlock, Exit.then])
    refine bodyPost_ret (v := .tuple #[.agg #[.int .i64 S, .slice A' n cap'], .int .i64 7]) ?_ rfl (put_same HP.out HN.out (HO.out _ _))
    rw [results_cell_tmp rfl]
    go_simp
  have HNO : Hid (¬ has t l) := Lib.hid (of_decide_eq_false HPL.out.1.symm)
  by_cases h2 : n = 64
  · have HP : Hid (putH ⟨S, l⟩ (t, v) = (⟨S, l⟩, 8)) := Lib.hid (by
      have := HN.out
      rcases hcase.out with ⟨h, e⟩ | ⟨_, h, e⟩ | ⟨_, _, _, e⟩ | ⟨_, _, h, _⟩
      · omega
      · exact absurd h HNO.out
      · exact e
      · omega)
    have h2' : ((n : Int) == 64) = true := by simp; omega
    clear h2
    go_wp2_with fail
    refine (MO.out _ HB2.out).mono ?_
    rintro e w3 ⟨A', cap', rfl, hout⟩
    obtain ⟨⟨x0, x1, y0, y1⟩, hO⟩ := HOW.out w3 A' cap' _ hout
    have HO := Lib.hid hO
    clear hout hO
    go_wp2
    (try simp only [Exit.inBlock, Exit.then])
    refine bodyPost_ret (v := .tuple #[.agg #[.int .i64 S, .slice A' n cap'], .int .i64 8]) ?_ rfl (put_same HP.out HN.out (HO.out _ _))
    rw [results_cell_tmp rfl]
    go_simp
  have h2' : ((n : Int) == 64) = false := by simp; omega
  clear h2
  have hk : k ≤ n := by have := HPL.out.2.1; have := HN.out; omega
  have hcap : n ≤ cap := by have := HR.out.le; have := HN.out; omega
  obtain ⟨A2, hs2, hrow2⟩ := slice_lo (HR.out.below HB2.out) HN.out hk
  have hs1 : ∀ w, (Instr.slice 23 (.slice A n cap) none (some (.int .i64 (k : Int))) none).run Try.prog w = .ok (.slice A k cap) w := slice_hi (by omega)
  have HP : Hid (putH ⟨S, l⟩ (t, v) = (⟨S, ins (t, v) l⟩, 0)) := Lib.hid (by
    have := HN.out
    have : ¬ n = 64 := by intro e; rw [e] at h2'; simp at h2'
    rcases hcase.out with ⟨h, e⟩ | ⟨_, h, e⟩ | ⟨_, _, h, e⟩ | ⟨_, _, _, e⟩
    · omega
    · exact absurd h HNO.out
    · omega
    · exact e)
  have HINS : Hid (l.take k ++ [(t, v)] ++ l.drop k = ins (t, v) l) := Lib.hid (by rw [HPL.out.2.2 rfl]; rfl)
  have MC : Hid (∀ u : World, Below w2.heap.size w2 u → Calls Try.prog 20 #[.slice (some ⟨u.heap.size + 1, 0, none⟩) 3 3] ((u.alloc (.cells #[.int .i64 t, .int .i64 v] 30)).alloc (.cells #[.slice A k cap, .slice (some ⟨u.heap.size, 0, none⟩) 1 1, .slice A2 (n - k) (cap - k)] 23)) fun e w' => ∃ A' cap', e = .returned (.slice A' (n + 1) cap') ∧ Out w2 w' w2.heap.size A' cap' (ins (t, v) l)) := Lib.hid (fun u hu => by
    have hB1 : Below w2.heap.size w2 (u.alloc (.cells #[.int .i64 t, .int .i64 v] 30)) := past_alloc hu _
    have hB2 : Below w2.heap.size w2 ((u.alloc (.cells #[.int .i64 t, .int .i64 v] 30)).alloc (.cells #[.slice A k cap, .slice (some ⟨u.heap.size, 0, none⟩) 1 1, .slice A2 (n - k) (cap - k)] 23)) := past_alloc hB1 _
    have hrow1 : Row (u.alloc (.cells #[.int .i64 t, .int .i64 v] 30)) (some ⟨u.heap.size, 0, none⟩) 1 [(t, v)] := by
      refine ⟨⟨fun s hs => ?_, fun _ => ⟨u.heap.size, 0, rfl, fun j hj => ?_⟩⟩, Nat.le_refl _, by unfold maxLen; omega, fun e => by cases e⟩
      · rw [List.mem_singleton] at hs
        subst hs
        have := HT.out
        unfold inT at this
        exact ⟨by unfold In64; simp only; omega, HV.out⟩
      · have : j = 0 := by simp only [List.length_singleton] at hj; omega
        subst this
        exact ⟨by simp, by simp⟩
    have hsz : (u.alloc (.cells #[.int .i64 t, .int .i64 v] 30)).heap.size = u.heap.size + 1 := by simp
    have hc3 : ∀ j x, (#[.slice A k cap, .slice (some ⟨u.heap.size, 0, none⟩) 1 1, .slice A2 (n - k) (cap - k)] : Array Value)[j]? = some x → ((u.alloc (.cells #[.int .i64 t, .int .i64 v] 30)).alloc (.cells #[.slice A k cap, .slice (some ⟨u.heap.size, 0, none⟩) 1 1, .slice A2 (n - k) (cap - k)] 23)).cell? ⟨u.heap.size + 1, j, none⟩ = some x := fun j x hx => by
      rw [← hsz]
      match j, hx with
      | 0, hx => rw [← hx]; simp
      | 1, hx => rw [← hx]; simp
      | 2, hx => rw [← hx]; simp
      | (j + 3), hx => simp at hx
    have h := concat_any (g := u.heap.size + 1) (n1 := k) (n2 := 1) (n3 := n - k) (n := n + 1) (w := (u.alloc (.cells #[.int .i64 t, .int .i64 v] 30)).alloc (.cells #[.slice A k cap, .slice (some ⟨u.heap.size, 0, none⟩) 1 1, .slice A2 (n - k) (cap - k)] 23)) ((row_take (k := k) (HR.out.below HB2.out)).below hB2) (hrow1.below (below_box _ _)) (hrow2.below hB2) (by rw [List.length_take, HN.out]; omega) rfl (by rw [List.length_drop, HN.out]) (by omega) (by omega) (by omega) (hc3 0 _ rfl) (hc3 1 _ rfl) (hc3 2 _ rfl)
    refine h.mono ?_
    rintro e w' ⟨A', cap', rfl, ho⟩
    refine ⟨A', cap', rfl, ?_⟩
    rw [HINS.out] at ho
    exact (ho.start hB2).low (hB2.size))
  have HST : Hid (∀ w', Below w2.heap.size w2 w' → w'.cell? ⟨w.heap.size, 0, none⟩ = some (.int .i64 S) ∧ w'.cell? ⟨w.heap.size, 1, none⟩ = some (.slice A n cap) ∧ w'.cell? ⟨w.heap.size + 1, 0, none⟩ = some (.int .i64 t) ∧ w'.cell? ⟨w.heap.size + 1, 1, none⟩ = some (.int .i64 v)) := Lib.hid (fun w' h => ⟨(HV0.out.below h).c0, (HV0.out.below h).c1, (HV1.out.below h).c0, (HV1.out.below h).c1⟩)
  have HBD : Hid (∀ m, Below w2.heap.size w2 (w2.drewN m)) := Lib.hid (fun m => belowN _ _)
  have d1 := HV1.out.c1
  have HSS : Hid (∀ (w' : World) (u u' : Value), (w'.cell? ⟨w.heap.size, 0, none⟩ = some (.int .i64 S) ∧ w'.cell? ⟨w.heap.size, 1, none⟩ = some (.slice A n cap) ∧ w'.cell? ⟨w.heap.size + 1, 0, none⟩ = some (.int .i64 t) ∧ w'.cell? ⟨w.heap.size + 1, 1, none⟩ = some (.int .i64 v)) →
      (((w'.setCell ⟨w.heap.size + 1 + 1, 0, none⟩ u).setCell ⟨w.heap.size + 1 + 1, 1, none⟩ u').cell? ⟨w.heap.size, 0, none⟩ = some (.int .i64 S) ∧ ((w'.setCell ⟨w.heap.size + 1 + 1, 0, none⟩ u).setCell ⟨w.heap.size + 1 + 1, 1, none⟩ u').cell? ⟨w.heap.size, 1, none⟩ = some (.slice A n cap) ∧
        ((w'.setCell ⟨w.heap.size + 1 + 1, 0, none⟩ u).setCell ⟨w.heap.size + 1 + 1, 1, none⟩ u').cell? ⟨w.heap.size + 1, 0, none⟩ = some (.int .i64 t) ∧ ((w'.setCell ⟨w.heap.size + 1 + 1, 0, none⟩ u).setCell ⟨w.heap.size + 1 + 1, 1, none⟩ u').cell? ⟨w.heap.size + 1, 1, none⟩ = some (.int .i64 v))) := Lib.hid (fun w' u u' ⟨h0, h1, h2, h3⟩ => by
    have e : ∀ a : Addr, a.block ≠ w.heap.size + 1 + 1 → ((w'.setCell ⟨w.heap.size + 1 + 1, 0, none⟩ u).setCell ⟨w.heap.size + 1 + 1, 1, none⟩ u').cell? a = w'.cell? a := fun a ha =>
      (World.cell?_of_block (Below.heap_setCell _ _ _ _ (by simp only; omega))).trans (World.cell?_of_block (Below.heap_setCell _ _ _ _ (by simp only; omega)))
    rw [e _ (by simp only; omega), e _ (by simp only; omega), e _ (by simp only; omega), e _ (by simp only; omega)]
    exact ⟨h0, h1, h2, h3⟩)
  clear hrow2 hk hcap HINS HNO hcase HPL MO MP
  go_upto_region 10 with fail
  go_region_held3 (fun w' => w'.cell? ⟨w.heap.size, 0, none⟩ = some (.int .i64 S) ∧ w'.cell? ⟨w.heap.size, 1, none⟩ = some (.slice A n cap) ∧ w'.cell? ⟨w.heap.size + 1, 0, none⟩ = some (.int .i64 t) ∧ w'.cell? ⟨w.heap.size + 1, 1, none⟩ = some (.int .i64 v))
    (first
      | exact hS2
      | exact HSS.out _ _ _ hS2
      | exact HST.out _ (HBD.out 1)
      | exact HST.out _ (past_alloc (HBD.out 1) _)
      | exact HST.out _ (past_alloc (past_alloc (HBD.out 1) _) _)
      | exact HST.out _ (Below.refl _ _))
    (first
      | (go_at_call 20; refine (MC.out _ (HBD.out 1)).mono ?_; rintro e wt ⟨A', cap', rfl, hout⟩; have hS2 := HST.out _ hout.below; obtain ⟨x0, x1, y0, y1⟩ := HV2.out.below hout.below))
  have HO := Lib.hid (HOW.out wt A' cap' _ hout).2
  have HL : Hid ((ins (t, v) l).length = n + 1) := Lib.hid (by rw [ins_len, HN.out])
  clear hout hS2 HSS HST HBD MC HOW hs1 hs2 c0 c1 d0 d1
  go_wp2
  refine bodyPost_ret (v := .tuple #[.agg #[.int .i64 S, .slice A' (n + 1) cap'], .int .i64 0]) ?_ rfl (put_new_ HP.out HL.out (HO.out _ _))
  rw [results_cell_tmp rfl]
  go_simp
end Go.Proofs.Ytinplchaimejbaa
