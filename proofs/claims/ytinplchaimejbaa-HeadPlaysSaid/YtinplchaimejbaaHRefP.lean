/-
  The document's own PutHead of a head that may be and a time that may be: what it returns; nothing that was there is written.
-/
import Derived.Test.YtinplchaimejbaaHRef
namespace Go.Proofs.Ytinplchaimejbaa
open Go.RowKit
attribute [local go_sem ↓] Go.wp_at_zero Go.wp_at_succ
set_option linter.unusedVariables false

/-- What PutHead gives back: the row is the one that came in, or a new one. -/
def RPost (S : Int) (A : Option Addr) (l : List (Int × Int)) (t v : Int) (w : World) (e : Ending) (w' : World) : Prop :=
  ∃ A' cap' n', e = .returned (.tuple #[.agg #[.int .i64 S, .slice A' n' cap'], .int .i64 (putH ⟨S, l⟩ (t, v)).2]) ∧ (putH ⟨S, l⟩ (t, v)).1.l.length = n' ∧ Row w' A' cap' (putH ⟨S, l⟩ (t, v)).1.l ∧ (∀ a, A' = some a → A = some a ∨ w.heap.size ≤ a.block) ∧ Below w.heap.size w w'
theorem rput_same {S t v c : Int} {n cap : Nat} {A : Option Addr} {l : List (Int × Int)} {w wz : World} (hp : putH ⟨S, l⟩ (t, v) = (⟨S, l⟩, c)) (hn : l.length = n) (hr : Row w A cap l) (hb : Below w.heap.size w wz) :
    RPost S A l t v w (.returned (.tuple #[.agg #[.int .i64 S, .slice A n cap], .int .i64 c])) wz := ⟨A, cap, n, by rw [hp], by rw [hp]; exact hn, by rw [hp]; exact hr.below hb, fun a e => .inl e, hb⟩

theorem rput_new {S t v c : Int} {n cap' F : Nat} {A A' : Option Addr} {l l' : List (Int × Int)} {w wz : World} (hp : putH ⟨S, l⟩ (t, v) = (⟨S, l'⟩, c)) (hn : l'.length = n) (ho : Out w wz F A' cap' l') (hF : w.heap.size ≤ F) :
    RPost S A l t v w (.returned (.tuple #[.agg #[.int .i64 S, .slice A' n cap'], .int .i64 c])) wz := ⟨A', cap', n, by rw [hp], by rw [hp]; exact hn, by rw [hp]; exact ho.row, fun a e => .inr (Nat.le_trans hF (ho.fresh a e)), ho.below⟩

/-- A row of the call's own, amid. -/
structure Mid (w2 u : World) (v : Value) (n : Nat) (l : List (Int × Int)) : Prop where
  own : u.ownsRow w2.heap.size 30 2 v n (sampV l)
  below : Below w2.heap.size w2 u
theorem step_append_mid {w2 u : World} {ops : Array Oper} {o : Oper} {a : Act} {K : Act → World → Prop} {Q : Exit → Act → World → Prop} {E : Prop} (hgd : o.guard = none) (s x : Operand)
    (ho : o.op = .call { callee := .builtin .append, args := #[s, x], argTypes := #[23, 23] }) (v : Value) (n m : Nat) (l l2 : List (Int × Int)) (hs : a.eval s = v) (M : Mid w2 u v n l)
    (B : Option Addr) (c : Nat) (hx : a.eval x = .slice B m c) (hm : l2.length = m) (hr : Row u B c l2) (hlen : n + m ≤ 100000)
    (h : ∀ v' u', Mid w2 u' v' (n + m) (l ++ l2) → u.grownBy u' v.ownBlock → K (a.put o.dst v') u') : if Region.wanted o (yielded ops a.tmps) = true then Oper.wp Try.prog o a u K Q else E := by
  have hw : Region.wanted o (yielded ops a.tmps) = true := by simp [Region.wanted, hgd]
  rw [if_pos hw]
  obtain ⟨i0', hi, hz0, hz1, hz2⟩ := info_parts Try.info30
  cases B with
  | none =>
    have hc := hr.nil rfl
    subst hc
    obtain rfl : m = 0 := by have := hr.le; omega
    obtain rfl : l2 = [] := List.length_eq_zero_iff.1 hm
    have hrun := run_append_owned_none (P := Try.prog) (w := u) w2.heap.size 23 o.type 30 i0' 2 Try.underlying23 hi v n (sampV l) M.own
    have hmono : K (a.put o.dst v) u := h v u (by rw [List.append_nil]; exact M) ⟨rfl, rfl, rfl, Nat.le_refl _, fun _ _ _ => rfl⟩
    unfold Oper.wp
    simp [execOp, ho, resolve, invoke, builtin, hs, hx, hrun, Result.andThen]
    exact hmono
  | some ad =>
    refine wp_append_own u s x 23 ho w2.heap.size 30 i0' (.agg #[.int .i64 0, .int .i64 0]) 2 16 Try.underlying23 hi hz0 hz1 hz2 rfl (by decide) v n (sampV l) hs M.own ad m c (sampV l2) hx (by rw [sampV_length, hm]) ?_ (sampV_one _) (by unfold maxLen; omega) (by omega) M.below.size ?_
    · intro j x hj
      have hl : 0 < l2.length := by
        rcases Nat.eq_zero_or_pos l2.length with e | e
        · rw [List.length_eq_zero_iff.1 e] at hj; simp [sampV] at hj
        · exact e
      obtain ⟨b, off, e, _⟩ := hr.samps.2 hl
      injection e with e
      subst e
      exact hr.samps.news j x hj
    · intro v' w' h1 h2 _
      exact h v' w' ⟨by rw [sampV_append]; exact h1, M.below.grown h2 M.below.size (fun k e => (M.own.lt k e).1)⟩ h2
theorem Mid.empty {w2 u : World} (hb : Below w2.heap.size w2 u) : Mid w2 (u.alloc (.cells #[] 30)) (.slice (some ⟨u.heap.size, 0, none⟩) 0 0) 0 [] :=
  ⟨World.ownsRow_made u #[] 0 hb.size (Nat.zero_le _) rfl, past_alloc hb _⟩
theorem Mid.alloc {w2 u : World} {v : Value} {n : Nat} {l : List (Int × Int)} (M : Mid w2 u v n l) (o : Obj) : Mid w2 (u.alloc o) v n l := ⟨M.own.alloc o, past_alloc M.below _⟩
theorem row_one (u : World) {t v : Int} (ht : inT t) (hv : In64 v) : Row (u.alloc (.cells #[.int .i64 t, .int .i64 v] 30)) (some ⟨u.heap.size, 0, none⟩) 1 [(t, v)] := by
  refine ⟨⟨fun s hs => ?_, fun _ => ⟨u.heap.size, 0, rfl, fun j hj => ?_⟩⟩, Nat.le_refl _, by unfold maxLen; omega, fun e => by cases e⟩
  · rw [List.mem_singleton] at hs
    subst hs
    unfold inT at ht
    exact ⟨by unfold In64; simp only; omega, hv⟩
  · have : j = 0 := by simp only [List.length_singleton] at hj; omega
    subst this
    exact ⟨by simp, by simp⟩
theorem Row.grown {w w' : World} {A : Option Addr} {cap : Nat} {l : List (Int × Int)} {row : Option Nat} (h : Row w A cap l) (hg : w.grownBy w' row) (hne : ∀ a, A = some a → some a.block ≠ row) : Row w' A cap l := by
  refine ⟨⟨h.samps.1, fun hp => ?_⟩, h.le, h.max, h.nil⟩
  obtain ⟨b, off, e, hc⟩ := h.samps.2 hp
  refine ⟨b, off, e, fun j hj => ?_⟩
  obtain ⟨h0, h1⟩ := hc j hj
  have hb := hne _ e
  exact ⟨hg.cell h0 hb, hg.cell h1 hb⟩

set_option maxRecDepth 100000 in
set_option maxHeartbeats 1000000 in
theorem rput_any {S t v : Int} {n cap : Nat} {A : Option Addr} {l : List (Int × Int)} {w : World} (hr : Row w A cap l) (hn : l.length = n) (hm : Hd.may ⟨S, l⟩) (ht : inT t) (hv : In64 v) :
    Calls Try.prog 12 #[.agg #[.int .i64 S, .slice A n cap], .agg #[.int .i64 t, .int .i64 v]] w (RPost S A l t v w) := by
  have h64 : n ≤ 64 := by have := hm.2.2.2.1; simp only at *; omega
  have HPAIR := Lib.hid ((rise_pair l).1 hm.2.2.1).2
  have M1 := Lib.hid (fun w' (h : Below w.heap.size w w') => rmayH_yes (hr.below h) hn hm)
  have hcase := Lib.hid (put_cases (s := (t, v)) hm ht)
  have t1 : ¬ t < 0 := by unfold inT at ht; omega
  have t2 : ¬ t ≥ 1099511627776 := by unfold inT at ht; omega
  have HR := Lib.hid hr
  have HN := Lib.hid hn
  have HV := Lib.hid hv
  have HT := Lib.hid ht
  clear hr hn hm ht hv
  have hBB : ∀ o o' o2, Below w.heap.size w (((w.alloc o).alloc o').alloc o2) := fun o o' o2 => past (past (below_box _ _) (below_box _ _)) (below_box _ _)
  have HBB := Lib.hid hBB
  clear hBB
  go_enter Try.func12, Try.ntmps12
  go_wp2_with fail
  refine (M1.out _ (HBB.out _ _ _)).mono ?_
  rintro e w2 ⟨rfl, hb2⟩
  have hv0 := (((HVar.new w (.int .i64 S) (.slice A n cap) 25).below (below_box _ (.cells #[.int .i64 t, .int .i64 v] 30))).below (below_box _ (.cells #[.int .i64 0, .slice none 0 0] 25))).below hb2
  have hv1 := ((HVar.new (w.alloc (.cells #[.int .i64 S, .slice A n cap] 25)) (.int .i64 t) (.int .i64 v) 30).below (below_box _ (.cells #[.int .i64 0, .slice none 0 0] 25))).below hb2
  have hv2 := (HVar.new ((w.alloc (.cells #[.int .i64 S, .slice A n cap] 25)).alloc (.cells #[.int .i64 t, .int .i64 v] 30)) (.int .i64 0) (.slice none 0 0) 25).below hb2
  have HB2 := Lib.hid (past (HBB.out _ _ _) hb2)
  have hz := hb2.size
  simp only [World.alloc, Array.size_push] at hv1 hv2 hz
  have HV0 := Lib.hid hv0
  have HV1 := Lib.hid hv1
  have HV2 := Lib.hid hv2
  have HZ := Lib.hid hz
  clear hb2 HBB M1 hv0 hv1 hv2 hz
  have HEND : Hid (∀ wz c, Below w2.heap.size w2 wz → putH ⟨S, l⟩ (t, v) = (⟨S, l⟩, c) → ∀ u u', RPost S A l t v w (.returned (.tuple #[.agg #[.int .i64 S, .slice A n cap], .int .i64 c])) ((wz.setCell ⟨w.heap.size + 1 + 1, 0, none⟩ u).setCell ⟨w.heap.size + 1 + 1, 1, none⟩ u')) := Lib.hid (fun wz c hb hp u u' =>
    rput_same hp HN.out HR.out (((past HB2.out hb).setCell (by simp only; omega) _).setCell (by simp only; omega) _))
  have c0 := HV0.out.c0
  have c1 := HV0.out.c1
  have d0 := HV1.out.c0
  obtain ⟨x0, x1, y0, y1⟩ := HV2.out
  by_cases h1 : t < S
  · have HP : Hid (putH ⟨S, l⟩ (t, v) = (⟨S, l⟩, 6)) := Lib.hid (by
      rcases hcase.out with ⟨_, e⟩ | ⟨h, _⟩ | ⟨h, _⟩ | ⟨h, _⟩
      · exact e
      all_goals omega)
    go_wp2
    (try simp only [Exit.inBlock, Exit.then])
    refine bodyPost_ret (v := .tuple #[.agg #[.int .i64 S, .slice A n cap], .int .i64 6]) ?_ rfl (HEND.out _ _ (Below.refl _ _) HP.out _ _)
    rw [results_cell_tmp rfl]
    go_simp
  clear x0 x1 y0 y1
  go_wp2
  clear c0 c1 d0
  go_loopw [6] (fun si wr => ∃ (k : Nat), k ≤ n ∧ si = .int .i64 (k : Int) ∧ Hid (∀ j, j < k → (l.getD j (0, 0)).1 < t) ∧ Hid (Below w2.heap.size w2 wr)) (fun si _ => n - (intOf si).toNat)
  case atStart => exact ⟨0, by omega, rfl, Lib.hid (fun j h => absurd h (by omega)), Lib.hid (Below.refl _ _)⟩
  case round =>
    obtain ⟨k, hk, rfl, HLO, HBR⟩ := hrel
    have c1 := (HV0.out.below HBR.out).c1
    have d0 := (HV1.out.below HBR.out).c0
    have i1 : (0 : Int) ≤ (k : Int) := by omega
    by_cases hlt : k < n
    · have i2 : (k : Int) < (n : Int) := by omega
      have i2' : decide ((k : Int) < (n : Int)) = true := decide_eq_true i2
      obtain ⟨b, off, hA, hcell⟩ := HR.out.samps.2 (by rw [HN.out]; omega)
      subst hA
      have q := (hcell k (by rw [HN.out]; omega)).1
      rw [← (past HB2.out HBR.out).cell (World.block_lt_of_cell? w _ q)] at q
      obtain ⟨T, hT⟩ : ∃ T, T = (l.getD k (0, 0)).1 := ⟨_, rfl⟩
      rw [← hT] at q
      have HTT := Lib.hid hT
      clear hcell hT
      by_cases hTt : T < t
      · have hd : decide (T < t) = true := decide_eq_true hTt
        have HLO2 : Hid (∀ j, j < k + 1 → (l.getD j (0, 0)).1 < t) := Lib.hid (fun j hj => by
          rcases Nat.lt_or_ge j k with h | h
          · exact HLO.out j h
          · obtain rfl : j = k := by omega
            rw [← HTT.out]
            exact hTt)
        go_upto_region 6 with fail
        go_quiet (fail)
        have HBR2 := Lib.hid (past HBR.out (belowN wr nq))
        clear c1 d0 q
        generalize wr.drewN nq = wz at *
        go_wp2
        go_roundw
        case rel => exact ⟨k + 1, by omega, by go_num, HLO2, HBR2⟩
        case measure => simp [intOf]; omega
      · have hd : decide (T < t) = false := decide_eq_false hTt
        go_upto_region 6 with fail
        go_quiet (fail)
        have HBR2 := Lib.hid (past HBR.out (belowN wr nq))
        have q2 : (wr.drewN nq).cell? ⟨b, off + k * 2, none⟩ = some (.int .i64 T) := q
        clear c1 d0 q HBR
        generalize wr.drewN nq = wz at *
        have c1 := (HV0.out.below HBR2.out).c1
        have d0 := (HV1.out.below HBR2.out).c0
        by_cases hTe : T = t
        · have hde : (T == t) = true := by simpa using hTe
          have HP : Hid (putH ⟨S, l⟩ (t, v) = (⟨S, l⟩, 7)) := Lib.hid (by
            have hh : has t l := has_iff.2 ⟨k, by rw [HN.out]; omega, by rw [← HTT.out]; exact hTe⟩
            rcases hcase.out with ⟨h, e⟩ | ⟨_, _, e⟩ | ⟨_, h, _⟩ | ⟨_, h, _⟩
            · omega
            · exact e
            · exact absurd hh h
            · exact absurd hh h)
          clear hTe
          go_upto_region 8 with fail
          go_quiet (fail)
          have HBR3 := Lib.hid (past HBR2.out (belowN wz nq))
          obtain ⟨x0, x1, y0, y1⟩ := HV2.out.below HBR3.out
          have c0 := (HV0.out.below HBR3.out).c0
          have c1' := (HV0.out.below HBR3.out).c1
          clear c1 d0 q2 HBR2
          generalize wz.drewN nq = wy at *
          go_wp2
          (try simp only [Exit.inBlock, Exit.then])
          refine bodyPost_ret (v := .tuple #[.agg #[.int .i64 S, .slice (some ⟨b, off, none⟩) n cap], .int .i64 7]) ?_ rfl (HEND.out _ _ HBR3.out HP.out _ _)
          rw [results_cell_tmp rfl]
          go_simp
        · have hde : (T == t) = false := by simpa using hTe
          have hpl : PlaceIs t l k false := place_none HPAIR.out (by rw [HN.out]; omega) (fun h => HLO.out _ (by omega)) (fun j h1 h2 => by
            rcases Nat.eq_or_lt_of_le h1 with e | e
            · subst e; rw [← HTT.out]; omega
            · have := getD_mono HPAIR.out e h2; rw [← HTT.out] at this; omega)
          have HNO : Hid (¬ has t l) := Lib.hid (of_decide_eq_false hpl.1.symm)
          have HINS : Hid (l.take k ++ [(t, v)] ++ l.drop k = ins (t, v) l) := Lib.hid (by rw [hpl.2.2 rfl]; rfl)
          clear hTe hpl
          go_upto_region 8 with fail
          go_quiet (fail)
          clear q2
          generalize (some (⟨b, off, none⟩ : Addr)) = A at *
          have HBR3 := Lib.hid (past HBR2.out (belowN wz nq))
          clear c1 d0 HBR2
          generalize wz.drewN nq = wy at *
          have c0 := (HV0.out.below HBR3.out).c0
          have c1 := (HV0.out.below HBR3.out).c1
          obtain ⟨x0, x1, y0, y1⟩ := HV2.out.below HBR3.out
          by_cases hfull : n = 64
          · have HP : Hid (putH ⟨S, l⟩ (t, v) = (⟨S, l⟩, 8)) := Lib.hid (by
              have := HN.out
              rcases hcase.out with ⟨h, e⟩ | ⟨_, h, e⟩ | ⟨_, _, _, e⟩ | ⟨_, _, h, _⟩
              · omega
              · exact absurd h HNO.out
              · exact e
              · omega)
            have hf : (n : Int) ≥ 64 := by omega
            clear hfull
            go_wp2
            (try simp only [Exit.inBlock, Exit.then])
            refine bodyPost_ret (v := .tuple #[.agg #[.int .i64 S, .slice A n cap], .int .i64 8]) ?_ rfl (HEND.out _ _ HBR3.out HP.out _ _)
            rw [results_cell_tmp rfl]
            go_simp
          have hf : ¬ (n : Int) ≥ 64 := by omega
          have HP : Hid (putH ⟨S, l⟩ (t, v) = (⟨S, ins (t, v) l⟩, 0)) := Lib.hid (by
            have := HN.out
            rcases hcase.out with ⟨h, e⟩ | ⟨_, h, e⟩ | ⟨_, _, h, e⟩ | ⟨_, _, _, e⟩
            · omega
            · exact absurd h HNO.out
            · omega
            · exact e)
          clear hfull x0 x1 y0 y1
          have hcap : n ≤ cap := by have := HR.out.le; have := HN.out; omega
          obtain ⟨A2, hs2, hrow2⟩ := slice_lo (HR.out.below (past HB2.out HBR3.out)) HN.out hk
          have hs1 : ∀ w, (Instr.slice 23 (.slice A n cap) none (some (.int .i64 (k : Int))) none).run Try.prog w = .ok (.slice A k cap) w := slice_hi (by omega)
          have HROW2 := Lib.hid hrow2
          have HTK : Hid (∀ u, Below wy.heap.size wy u → Row u A cap (l.take k)) := Lib.hid (fun u hu => row_take (HR.out.below (past (past HB2.out HBR3.out) hu)))
          have HTL : Hid ((l.take k).length = k) := Lib.hid (by rw [List.length_take, HN.out]; omega)
          have HONE : Hid (∀ u : World, Row (u.alloc (.cells #[.int .i64 t, .int .i64 v] 30)) (some ⟨u.heap.size, 0, none⟩) 1 [(t, v)]) := Lib.hid (fun u => row_one u HT.out HV.out)
          have HEMP : Hid (∀ u, Below wy.heap.size wy u → Mid wy (u.alloc (.cells #[] 30)) (.slice (some ⟨u.heap.size, 0, none⟩) 0 0) 0 []) := Lib.hid (fun u hu => Mid.empty hu)
          have HST : Hid (∀ w', Below wy.heap.size wy w' → w'.cell? ⟨w.heap.size, 1, none⟩ = some (.slice A n cap) ∧ w'.cell? ⟨w.heap.size + 1, 0, none⟩ = some (.int .i64 t) ∧ w'.cell? ⟨w.heap.size + 1, 1, none⟩ = some (.int .i64 v)) := Lib.hid (fun w' h => ⟨(HV0.out.below (past HBR3.out h)).c1, (HV1.out.below (past HBR3.out h)).c0, (HV1.out.below (past HBR3.out h)).c1⟩)
          have HBD : Hid (∀ m, Below wy.heap.size wy (wy.drewN m)) := Lib.hid (fun m => belowN _ _)
          have HRA : Hid (∀ wa, (((wy.drewN 1).alloc (.cells #[] 30)).alloc (.cells #[.int .i64 t, .int .i64 v] 30)).grownBy wa (Value.slice (some ⟨(wy.drewN 1).heap.size, 0, none⟩) 0 0).ownBlock → Row wa (some ⟨wy.heap.size + 1, 0, none⟩) 1 [(t, v)]) := Lib.hid (fun wa hg => by
            have h1 := HONE.out ((wy.drewN 1).alloc (.cells #[] 30))
            rw [show ((wy.drewN 1).alloc (.cells #[] 30)).heap.size = wy.heap.size + 1 by simp [World.drewN]] at h1
            refine h1.grown hg (fun a e => ?_)
            injection e with e
            subst e
            simp only [Value.ownBlock]
            intro e
            injection e with e
            have : (wy.drewN 1).heap.size = wy.heap.size := rfl
            omega)
          have HZ2 : Hid (((wy.drewN 1).alloc (.cells #[.int .i64 t, .int .i64 v] 30)).heap.size = wy.heap.size + 1) := Lib.hid (by simp [World.drewN])
          have HEMP2 : Hid (Mid wy (((wy.drewN 1).alloc (.cells #[.int .i64 t, .int .i64 v] 30)).alloc (.cells #[] 30)) (.slice (some ⟨wy.heap.size + 1, 0, none⟩) 0 0) 0 []) := Lib.hid (by
            have := HEMP.out ((wy.drewN 1).alloc (.cells #[.int .i64 t, .int .i64 v] 30)) (past_alloc (HBD.out 1) _)
            rwa [HZ2.out] at this)
          have HRB : Hid (∀ wa, (((wy.drewN 1).alloc (.cells #[.int .i64 t, .int .i64 v] 30)).alloc (.cells #[] 30)).grownBy wa (Value.slice (some ⟨wy.heap.size + 1, 0, none⟩) 0 0).ownBlock → Row wa (some ⟨wy.heap.size, 0, none⟩) 1 [(t, v)]) := Lib.hid (fun wa hg => by
            have h1 := (HONE.out (wy.drewN 1)).below (below_box _ (.cells #[] 30))
            refine Row.grown h1 hg (fun a e => ?_)
            injection e with e
            subst e
            intro e
            have e2 : wy.heap.size = wy.heap.size + 1 := Option.some.inj e
            omega)
          have d0 := (HV1.out.below HBR3.out).c0
          have d1 := (HV1.out.below HBR3.out).c1
          clear hrow2 hcap
          go_upto_region 12 with fail
          go_region_held3 (fun w' => w'.cell? ⟨w.heap.size, 1, none⟩ = some (.slice A n cap) ∧ w'.cell? ⟨w.heap.size + 1, 0, none⟩ = some (.int .i64 t) ∧ w'.cell? ⟨w.heap.size + 1, 1, none⟩ = some (.int .i64 v))
            (first
              | exact hSb
              | exact hSa
              | exact HST.out _ (past_alloc hMa.below _)
              | exact HST.out _ (HBD.out 1)
              | exact HST.out _ (past_alloc (HBD.out 1) _)
              | exact HST.out _ (past_alloc (past_alloc (HBD.out 1) _) _)
              | exact HST.out _ (Below.refl _ _))
            (first
              | (refine step_append_mid (w2 := wy) (by rfl) _ _ (by rfl) _ 0 k [] (l.take k) (by rfl) (HEMP.out (wy.drewN 1) (HBD.out 1)) A cap (by rfl) HTL.out (HTK.out _ (past_alloc (HBD.out 1) _)) (by omega) ?_; intro va wa hMa hGa; rw [Nat.zero_add, List.nil_append] at hMa; have hSa := HST.out _ hMa.below)
              | (refine step_append_mid (w2 := wy) (by rfl) _ _ (by rfl) _ 0 k [] (l.take k) (by rfl) ((HEMP.out (wy.drewN 1) (HBD.out 1)).alloc (.cells #[.int .i64 t, .int .i64 v] 30)) A cap (by rfl) HTL.out (HTK.out _ (past_alloc (past_alloc (HBD.out 1) _) _)) (by omega) ?_; intro va wa hMa hGa; rw [Nat.zero_add, List.nil_append] at hMa; have hSa := HST.out _ hMa.below; have hRa := HRA.out wa hGa)
              | (refine step_append_mid (w2 := wy) (by rfl) _ _ (by rfl) _ 0 k [] (l.take k) (by rfl) HEMP2.out A cap (by rfl) HTL.out (HTK.out _ (past_alloc (past_alloc (HBD.out 1) _) _)) (by omega) ?_; intro va wa hMa hGa; rw [Nat.zero_add, List.nil_append] at hMa; have hSa := HST.out _ hMa.below; have hRa := HRB.out wa hGa)
              | (refine step_append_mid (w2 := wy) (by rfl) _ _ (by rfl) _ k 1 (l.take k) [(t, v)] (by rfl) (hMa.alloc (.cells #[.int .i64 t, .int .i64 v] 30)) (some ⟨wa.heap.size, 0, none⟩) 1 (by rfl) rfl (HONE.out wa) (by omega) ?_; intro vb wb hMb hGb; have hSb := HST.out _ hMb.below)
              | (refine step_append_mid (w2 := wy) (by rfl) _ _ (by rfl) _ k 1 (l.take k) [(t, v)] (by rfl) hMa _ 1 (by rfl) rfl hRa (by omega) ?_; intro vb wb hMb hGb; have hSb := HST.out _ hMb.below)
              | fail)
          all_goals
            have HMB := Lib.hid hMb
            have HC3 : Hid ((l.drop k).length = n - k) := Lib.hid (by rw [List.length_drop, HN.out])
            have HWB := Lib.hid (past HBR3.out hMb.below)
            have c1b := hSb.1
            clear hSb hSa hGa hGb hMb c0 c1 d0 d1 HTK HTL HONE HEMP HST HBD HRA HRB HEMP2 HZ2
            try clear hRa
            clear hMa
            go_wp2_with (at_builtin; refine wpList_append_samps rfl _ _ rfl wy.heap.size _ (k + 1) (n - k) (l.take k ++ [(t, v)]) (l.drop k) rfl HMB.out.own A2 (cap - k) rfl HC3.out (HROW2.out.below HMB.out.below) (by omega) HMB.out.below.size ?_)
            intro v5 w5 hown hgrow
            have hB5 : Below wy.heap.size wy w5 := HMB.out.below.grown hgrow HMB.out.below.size (fun k h => (HMB.out.own.lt k h).1)
            have hin : In2 (l.take k ++ [(t, v)] ++ l.drop k) := by
              rw [HINS.out]
              intro s hs
              rcases mem_ins.1 hs with rfl | hs
              · have := HT.out
                unfold inT at this
                exact ⟨by unfold In64; simp only; omega, HV.out⟩
              · exact HR.out.samps.1 s hs
            have e9 : l.take k ++ (t, v) :: l.drop k = ins (t, v) l := by rw [← HINS.out, List.append_assoc]; rfl
            first | rw [e9] at hown | rw [HINS.out] at hown
            rw [HINS.out] at hin
            obtain ⟨A3, cap3, hv5, hrow5, hlen5, hfr5⟩ := row_of_own hown hin
            rw [show k + 1 + (n - k) = n + 1 by omega] at hv5 hlen5
            subst hv5
            have HO5 : Hid (Out w w5 wy.heap.size A3 cap3 (ins (t, v) l)) := Lib.hid ⟨hrow5, hfr5, past (past HB2.out HBR3.out) hB5⟩
            have HL5 := Lib.hid hlen5
            have HZ5 := Lib.hid HBR3.out.size
            obtain ⟨c0, c1, f0, f1⟩ := HV0.out.below (past HBR3.out hB5)
            obtain ⟨x0, x1, y0, y1⟩ := HV2.out.below (past HBR3.out hB5)
            clear e9 hown hgrow hB5 hin hrow5 hlen5 hfr5 c1b HMB HC3 HWB hs1 hs2
            go_wp2
            (try simp only [Exit.inBlock, Exit.then])
            refine bodyPost_ret (v := .tuple #[.agg #[.int .i64 S, .slice A3 (n + 1) cap3], .int .i64 0]) ?_ rfl ?_
            · rw [results_cell_tmp rfl]
              go_simp
            · have hz := HZ.out
              have hz5 := HZ5.out
              exact rput_new HP.out HL5.out (((HO5.out.set_ _ _ (Nat.le_refl _) (by simp only; omega)).set_ _ _ (by simp only; omega) (by simp only; omega)).set_ _ _ (by simp only; omega) (by simp only; omega)) (by omega)
    · have i2 : ¬ (k : Int) < (n : Int) := by omega
      have i2' : decide ((k : Int) < (n : Int)) = false := decide_eq_false i2
      have hpl : PlaceIs t l k false := place_none HPAIR.out (by rw [HN.out]; omega) (fun h => HLO.out _ (by omega)) (fun j h1 h2 => absurd h2 (by rw [HN.out]; omega))
      have HNO : Hid (¬ has t l) := Lib.hid (of_decide_eq_false hpl.1.symm)
      have HINS : Hid (l.take k ++ [(t, v)] ++ l.drop k = ins (t, v) l) := Lib.hid (by rw [hpl.2.2 rfl]; rfl)
      clear hpl
      go_upto_region 6 with fail
      go_quiet (fail)
      have HBR2 := Lib.hid (past HBR.out (belowN wr nq))
      clear c1 d0 HBR
      generalize wr.drewN nq = wz at *
      have c1 := (HV0.out.below HBR2.out).c1
      have d0 := (HV1.out.below HBR2.out).c0
      go_upto_region 8 with fail
      go_quiet (fail)
      have HBR3 := Lib.hid (past HBR2.out (belowN wz nq))
      clear c1 d0 HBR2
      generalize wz.drewN nq = wy at *
      have c0 := (HV0.out.below HBR3.out).c0
      have c1 := (HV0.out.below HBR3.out).c1
      obtain ⟨x0, x1, y0, y1⟩ := HV2.out.below HBR3.out
      by_cases hfull : n = 64
      · have HP : Hid (putH ⟨S, l⟩ (t, v) = (⟨S, l⟩, 8)) := Lib.hid (by
          have := HN.out
          rcases hcase.out with ⟨h, e⟩ | ⟨_, h, e⟩ | ⟨_, _, _, e⟩ | ⟨_, _, h, _⟩
          · omega
          · exact absurd h HNO.out
          · exact e
          · omega)
        have hf : (n : Int) ≥ 64 := by omega
        clear hfull
        go_wp2
        (try simp only [Exit.inBlock, Exit.then])
        refine bodyPost_ret (v := .tuple #[.agg #[.int .i64 S, .slice A n cap], .int .i64 8]) ?_ rfl (HEND.out _ _ HBR3.out HP.out _ _)
        rw [results_cell_tmp rfl]
        go_simp
      have hf : ¬ (n : Int) ≥ 64 := by omega
      have HP : Hid (putH ⟨S, l⟩ (t, v) = (⟨S, ins (t, v) l⟩, 0)) := Lib.hid (by
        have := HN.out
        rcases hcase.out with ⟨h, e⟩ | ⟨_, h, e⟩ | ⟨_, _, h, e⟩ | ⟨_, _, _, e⟩
        · omega
        · exact absurd h HNO.out
        · omega
        · exact e)
      clear hfull x0 x1 y0 y1
      have hcap : n ≤ cap := by have := HR.out.le; have := HN.out; omega
      obtain ⟨A2, hs2, hrow2⟩ := slice_lo (HR.out.below (past HB2.out HBR3.out)) HN.out hk
      have hs1 : ∀ w, (Instr.slice 23 (.slice A n cap) none (some (.int .i64 (k : Int))) none).run Try.prog w = .ok (.slice A k cap) w := slice_hi (by omega)
      have HROW2 := Lib.hid hrow2
      have HTK : Hid (∀ u, Below wy.heap.size wy u → Row u A cap (l.take k)) := Lib.hid (fun u hu => row_take (HR.out.below (past (past HB2.out HBR3.out) hu)))
      have HTL : Hid ((l.take k).length = k) := Lib.hid (by rw [List.length_take, HN.out]; omega)
      have HONE : Hid (∀ u : World, Row (u.alloc (.cells #[.int .i64 t, .int .i64 v] 30)) (some ⟨u.heap.size, 0, none⟩) 1 [(t, v)]) := Lib.hid (fun u => row_one u HT.out HV.out)
      have HEMP : Hid (∀ u, Below wy.heap.size wy u → Mid wy (u.alloc (.cells #[] 30)) (.slice (some ⟨u.heap.size, 0, none⟩) 0 0) 0 []) := Lib.hid (fun u hu => Mid.empty hu)
      have HST : Hid (∀ w', Below wy.heap.size wy w' → w'.cell? ⟨w.heap.size, 1, none⟩ = some (.slice A n cap) ∧ w'.cell? ⟨w.heap.size + 1, 0, none⟩ = some (.int .i64 t) ∧ w'.cell? ⟨w.heap.size + 1, 1, none⟩ = some (.int .i64 v)) := Lib.hid (fun w' h => ⟨(HV0.out.below (past HBR3.out h)).c1, (HV1.out.below (past HBR3.out h)).c0, (HV1.out.below (past HBR3.out h)).c1⟩)
      have HBD : Hid (∀ m, Below wy.heap.size wy (wy.drewN m)) := Lib.hid (fun m => belowN _ _)
      have HRA : Hid (∀ wa, (((wy.drewN 1).alloc (.cells #[] 30)).alloc (.cells #[.int .i64 t, .int .i64 v] 30)).grownBy wa (Value.slice (some ⟨(wy.drewN 1).heap.size, 0, none⟩) 0 0).ownBlock → Row wa (some ⟨wy.heap.size + 1, 0, none⟩) 1 [(t, v)]) := Lib.hid (fun wa hg => by
        have h1 := HONE.out ((wy.drewN 1).alloc (.cells #[] 30))
        rw [show ((wy.drewN 1).alloc (.cells #[] 30)).heap.size = wy.heap.size + 1 by simp [World.drewN]] at h1
        refine h1.grown hg (fun a e => ?_)
        injection e with e
        subst e
        simp only [Value.ownBlock]
        intro e
        injection e with e
        have : (wy.drewN 1).heap.size = wy.heap.size := rfl
        omega)
      have HZ2 : Hid (((wy.drewN 1).alloc (.cells #[.int .i64 t, .int .i64 v] 30)).heap.size = wy.heap.size + 1) := Lib.hid (by simp [World.drewN])
      have HEMP2 : Hid (Mid wy (((wy.drewN 1).alloc (.cells #[.int .i64 t, .int .i64 v] 30)).alloc (.cells #[] 30)) (.slice (some ⟨wy.heap.size + 1, 0, none⟩) 0 0) 0 []) := Lib.hid (by
        have := HEMP.out ((wy.drewN 1).alloc (.cells #[.int .i64 t, .int .i64 v] 30)) (past_alloc (HBD.out 1) _)
        rwa [HZ2.out] at this)
      have HRB : Hid (∀ wa, (((wy.drewN 1).alloc (.cells #[.int .i64 t, .int .i64 v] 30)).alloc (.cells #[] 30)).grownBy wa (Value.slice (some ⟨wy.heap.size + 1, 0, none⟩) 0 0).ownBlock → Row wa (some ⟨wy.heap.size, 0, none⟩) 1 [(t, v)]) := Lib.hid (fun wa hg => by
        have h1 := (HONE.out (wy.drewN 1)).below (below_box _ (.cells #[] 30))
        refine Row.grown h1 hg (fun a e => ?_)
        injection e with e
        subst e
        intro e
        have e2 : wy.heap.size = wy.heap.size + 1 := Option.some.inj e
        omega)
      have d0 := (HV1.out.below HBR3.out).c0
      have d1 := (HV1.out.below HBR3.out).c1
      clear hrow2 hcap
      go_upto_region 12 with fail
      go_region_held3 (fun w' => w'.cell? ⟨w.heap.size, 1, none⟩ = some (.slice A n cap) ∧ w'.cell? ⟨w.heap.size + 1, 0, none⟩ = some (.int .i64 t) ∧ w'.cell? ⟨w.heap.size + 1, 1, none⟩ = some (.int .i64 v))
        (first
          | exact hSb
          | exact hSa
          | exact HST.out _ (past_alloc hMa.below _)
          | exact HST.out _ (HBD.out 1)
          | exact HST.out _ (past_alloc (HBD.out 1) _)
          | exact HST.out _ (past_alloc (past_alloc (HBD.out 1) _) _)
          | exact HST.out _ (Below.refl _ _))
        (first
          | (refine step_append_mid (w2 := wy) (by rfl) _ _ (by rfl) _ 0 k [] (l.take k) (by rfl) (HEMP.out (wy.drewN 1) (HBD.out 1)) A cap (by rfl) HTL.out (HTK.out _ (past_alloc (HBD.out 1) _)) (by omega) ?_; intro va wa hMa hGa; rw [Nat.zero_add, List.nil_append] at hMa; have hSa := HST.out _ hMa.below)
          | (refine step_append_mid (w2 := wy) (by rfl) _ _ (by rfl) _ 0 k [] (l.take k) (by rfl) ((HEMP.out (wy.drewN 1) (HBD.out 1)).alloc (.cells #[.int .i64 t, .int .i64 v] 30)) A cap (by rfl) HTL.out (HTK.out _ (past_alloc (past_alloc (HBD.out 1) _) _)) (by omega) ?_; intro va wa hMa hGa; rw [Nat.zero_add, List.nil_append] at hMa; have hSa := HST.out _ hMa.below; have hRa := HRA.out wa hGa)
          | (refine step_append_mid (w2 := wy) (by rfl) _ _ (by rfl) _ 0 k [] (l.take k) (by rfl) HEMP2.out A cap (by rfl) HTL.out (HTK.out _ (past_alloc (past_alloc (HBD.out 1) _) _)) (by omega) ?_; intro va wa hMa hGa; rw [Nat.zero_add, List.nil_append] at hMa; have hSa := HST.out _ hMa.below; have hRa := HRB.out wa hGa)
          | (refine step_append_mid (w2 := wy) (by rfl) _ _ (by rfl) _ k 1 (l.take k) [(t, v)] (by rfl) (hMa.alloc (.cells #[.int .i64 t, .int .i64 v] 30)) (some ⟨wa.heap.size, 0, none⟩) 1 (by rfl) rfl (HONE.out wa) (by omega) ?_; intro vb wb hMb hGb; have hSb := HST.out _ hMb.below)
          | (refine step_append_mid (w2 := wy) (by rfl) _ _ (by rfl) _ k 1 (l.take k) [(t, v)] (by rfl) hMa _ 1 (by rfl) rfl hRa (by omega) ?_; intro vb wb hMb hGb; have hSb := HST.out _ hMb.below)
          | fail)
      all_goals
        have HMB := Lib.hid hMb
        have HC3 : Hid ((l.drop k).length = n - k) := Lib.hid (by rw [List.length_drop, HN.out])
        have HWB := Lib.hid (past HBR3.out hMb.below)
        have c1b := hSb.1
        clear hSb hSa hGa hGb hMb c0 c1 d0 d1 HTK HTL HONE HEMP HST HBD HRA HRB HEMP2 HZ2
        try clear hRa
        clear hMa
        go_wp2_with (at_builtin; refine wpList_append_samps rfl _ _ rfl wy.heap.size _ (k + 1) (n - k) (l.take k ++ [(t, v)]) (l.drop k) rfl HMB.out.own A2 (cap - k) rfl HC3.out (HROW2.out.below HMB.out.below) (by omega) HMB.out.below.size ?_)
        intro v5 w5 hown hgrow
        have hB5 : Below wy.heap.size wy w5 := HMB.out.below.grown hgrow HMB.out.below.size (fun k h => (HMB.out.own.lt k h).1)
        have hin : In2 (l.take k ++ [(t, v)] ++ l.drop k) := by
          rw [HINS.out]
          intro s hs
          rcases mem_ins.1 hs with rfl | hs
          · have := HT.out
            unfold inT at this
            exact ⟨by unfold In64; simp only; omega, HV.out⟩
          · exact HR.out.samps.1 s hs
        have e9 : l.take k ++ (t, v) :: l.drop k = ins (t, v) l := by rw [← HINS.out, List.append_assoc]; rfl
        first | rw [e9] at hown | rw [HINS.out] at hown
        rw [HINS.out] at hin
        obtain ⟨A3, cap3, hv5, hrow5, hlen5, hfr5⟩ := row_of_own hown hin
        rw [show k + 1 + (n - k) = n + 1 by omega] at hv5 hlen5
        subst hv5
        have HO5 : Hid (Out w w5 wy.heap.size A3 cap3 (ins (t, v) l)) := Lib.hid ⟨hrow5, hfr5, past (past HB2.out HBR3.out) hB5⟩
        have HL5 := Lib.hid hlen5
        have HZ5 := Lib.hid HBR3.out.size
        obtain ⟨c0, c1, f0, f1⟩ := HV0.out.below (past HBR3.out hB5)
        obtain ⟨x0, x1, y0, y1⟩ := HV2.out.below (past HBR3.out hB5)
        clear e9 hown hgrow hB5 hin hrow5 hlen5 hfr5 c1b HMB HC3 HWB hs1 hs2
        go_wp2
        (try simp only [Exit.inBlock, Exit.then])
        refine bodyPost_ret (v := .tuple #[.agg #[.int .i64 S, .slice A3 (n + 1) cap3], .int .i64 0]) ?_ rfl ?_
        · rw [results_cell_tmp rfl]
          go_simp
        · have hz := HZ.out
          have hz5 := HZ5.out
          exact rput_new HP.out HL5.out (((HO5.out.set_ _ _ (Nat.le_refl _) (by simp only; omega)).set_ _ _ (by simp only; omega) (by simp only; omega)).set_ _ _ (by simp only; omega) (by simp only; omega)) (by omega)
end Go.Proofs.Ytinplchaimejbaa
