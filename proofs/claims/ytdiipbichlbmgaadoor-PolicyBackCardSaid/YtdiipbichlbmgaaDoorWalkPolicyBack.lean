/-
  The walk of PolicyBack: it returns true, and writes nothing that was there.
-/
import Derived.Test.YtdiipbichlbmgaaDoorPTold
import Derived.Test.YtdiipbichlbmgaaDoorPBack
namespace Go.Proofs.YtdiipbichlbmgaaDoor.policyBack
open Go.RowKit
set_option linter.unusedVariables false

theorem wrap_u64_rem {a : Int} (m : Int) (hm : 0 < m) : ∃ x : Int, (IntKind.u64.wrap a).tmod m = x ∧ 0 ≤ x ∧ x < m := by
  have h0 : 0 ≤ IntKind.u64.wrap a := by rw [IntKind.wrap_u64]; omega
  refine ⟨_, rfl, Int.tmod_nonneg m h0, Int.tmod_lt_of_pos _ hm⟩

theorem printR_len {p : Pol} (h : p.ok) : (printR p).length < 4611686018427387900 := by
  have h1 := linesR_len h 4
  have h2 := Lib.itoa_length_le p.cn h.2.2.2.2.1.1 h.2.2.2.2.1.2
  have h3 := Lib.itoa_length_le p.sp h.2.2.2.2.2.1 h.2.2.2.2.2.2
  simp only [printR, List.length_append, List.length_cons, List.length_nil]
  omega
/-- What the loop holds. -/
structure Inv (w wr : World) (g5 g11 : Nat) (p q : Pol) : Prop where
  base : TEnv w w
  env : TEnv w wr
  okp : p.ok
  okq : q.ok
  hp : PHold wr g5 p
  hq : PHold wr g11 q
  fq : Open6 wr g11
  n5 : w.heap.size ≤ g5 ∧ g5 < wr.heap.size
  n11 : w.heap.size ≤ g11 ∧ g11 < wr.heap.size
  ne : g5 ≠ g11
theorem Inv.on {w wr w' : World} {g5 g11 : Nat} {p q : Pol} (h : Inv w wr g5 g11 p q) (hb : Below wr.heap.size wr w') : Inv w w' g5 g11 p q :=
  ⟨h.base, h.env.on hb, h.okp, h.okq, h.hp.below h.n5.2 hb, h.hq.below h.n11.2 hb, h.fq.below h.n11.2 hb, ⟨h.n5.1, Nat.lt_of_lt_of_le h.n5.2 hb.size⟩, ⟨h.n11.1, Nat.lt_of_lt_of_le h.n11.2 hb.size⟩, h.ne⟩

theorem set_hold {w : World} {g : Nat} {q p : Pol} (h : PHold w g q) : PHold ((((((w.setCell ⟨g, 0, none⟩ (.int .i64 p.a0)).setCell ⟨g, 1, none⟩ (.int .i64 p.a1)).setCell ⟨g, 2, none⟩ (.int .i64 p.a2)).setCell ⟨g, 3, none⟩ (.int .i64 p.a3)).setCell ⟨g, 4, none⟩ (.int .i64 p.cn)).setCell ⟨g, 5, none⟩ (.int .i64 p.sp)) g p := by
  obtain ⟨h0, h1, h2, h3, h4, h5⟩ := h
  unfold PHold
  simp [go_sem, *]
/-- q = p. -/
theorem Inv.take {w wr : World} {g5 g11 : Nat} {p q : Pol} (h : Inv w wr g5 g11 p q) : Inv w ((((((wr.setCell ⟨g11, 0, none⟩ (.int .i64 p.a0)).setCell ⟨g11, 1, none⟩ (.int .i64 p.a1)).setCell ⟨g11, 2, none⟩ (.int .i64 p.a2)).setCell ⟨g11, 3, none⟩ (.int .i64 p.a3)).setCell ⟨g11, 4, none⟩ (.int .i64 p.cn)).setCell ⟨g11, 5, none⟩ (.int .i64 p.sp)) g5 g11 p p := by
  have hb := below_set6 (o0 := 0) (o1 := 1) (o2 := 2) (o3 := 3) (o4 := 4) (o5 := 5) (v0 := .int .i64 p.a0) (v1 := .int .i64 p.a1) (v2 := .int .i64 p.a2) (v3 := .int .i64 p.a3) (v4 := .int .i64 p.cn) (v5 := .int .i64 p.sp) h.env.below h.n11.1
  refine ⟨h.base, h.base.on hb, h.okp, h.okp, ?_, set_hold h.hq, ?_, ⟨h.n5.1, by simpa using h.n5.2⟩, ⟨h.n11.1, by simpa using h.n11.2⟩, h.ne⟩
  · have := h.hp
    unfold PHold at this ⊢
    simpa only [setOther _ _ _ _ _ _ h.ne] using this
  · intro i hi
    simpa using h.fq i hi

set_option maxRecDepth 100000 in
set_option maxHeartbeats 1000000 in
theorem walk (p : Pol) (a b c n : Int) (w : World) (hp : p.ok) (w1 : (Lit.int .i64 a).wf = true) (w2 : (Lit.int .i64 b).wf = true) (w3 : (Lit.int .i64 c).wf = true) (w4 : (Lit.int .i64 n).wf = true) (hw : Nam w) (hT : Pow w) (hn : 0 < w.heap.size) :
    Calls Tryd.prog 4 #[p.val, .int .i64 a, .int .i64 b, .int .i64 c, .int .i64 n] w fun e w' => e = .returned (.bool true) ∧ Below w.heap.size w w' := by
  obtain ⟨x, hx, hx0, hx1⟩ := wrap_u64_rem (a := a) 1000 (by decide)
  obtain ⟨y, hy, hy0, hy1⟩ := wrap_u64_rem (a := b) 1000 (by decide)
  obtain ⟨z, hz, hz0, hz1⟩ := wrap_u64_rem (a := c) 1000 (by decide)
  obtain ⟨k, hk, hk0, hk1⟩ := wrap_u64_rem (a := n) 64 (by decide)
  obtain ⟨m, hm, hm0, hm1⟩ := wrap_u64_rem (a := n) 200 (by decide)
  have HE : Hid (TEnv w w) := Lib.hid ⟨hw, hT, hn, Below.refl _ _⟩
  have HP := Lib.hid hp
  clear hw hT hn hp w1 w2 w3 w4
  obtain ⟨p0, p1, p2, p3, pc, ps⟩ := p
  unfold Pol.val
  simp only
  go_enter Tryd.func4, Tryd.ntmps4
  go_upto_if 37 with fail
  go_cut [10] (fun s10 wx => ∃ Q, s10 = .bool false ∧ Hid (Inv w wx w.heap.size (w.heap.size + 1) ⟨p0, p1, p2, p3, pc, ps⟩ Q))
  case first =>
    by_cases h0 : 0 < x
    · go_wp2_with fail
      go_meet
      refine ⟨⟨x, x + y, x + y + z, 0, 1 + k, 1 + m⟩, rfl, Lib.hid ⟨HE.out, (HE.out.alloc _).alloc _, HP.out, ?_, ?_, ?_, ?_, ⟨Nat.le_refl _, by simp; omega⟩, ⟨by omega, by simp⟩, by omega⟩⟩
      · unfold Pol.ok In64; simp only; omega
      · unfold PHold; simp
      · unfold PHold; simp
      · intro i hi; simp
    · go_wp2_with fail
      go_meet
      refine ⟨⟨x, 0, 0, 0, 1 + k, 1 + m⟩, rfl, Lib.hid ⟨HE.out, (HE.out.alloc _).alloc _, HP.out, ?_, ?_, ?_, ?_, ⟨Nat.le_refl _, by simp; omega⟩, ⟨by omega, by simp⟩, by omega⟩⟩
      · unfold Pol.ok In64; simp only; omega
      · unfold PHold; simp
      · unfold PHold; simp
      · intro i hi; simp
  case rest =>
    obtain ⟨Q, rfl, HI⟩ := hcut
    clear hx hy hz hk hm
    go_wp2
    go_loopw [12] (fun st wr => ∃ (j : Nat) (q : Pol), j ≤ 2 ∧ st = .int .i64 (j : Int) ∧ Hid (Inv w wr w.heap.size (w.heap.size + 1) ⟨p0, p1, p2, p3, pc, ps⟩ q)) (fun st _ => 2 - (intOf st).toNat)
    case atStart => exact ⟨0, Q, by omega, rfl, HI⟩
    case round =>
      obtain ⟨j, q, hj, rfl, HI⟩ := hrel
      by_cases h2 : j < 2
      · obtain ⟨q0, q1, q2, q3, qc, qs⟩ := q
        obtain ⟨c0, c1, c2, c3, c4, c5⟩ := HI.out.hq
        simp only at c0 c1 c2 c3 c4 c5
        by_cases hm : Pol.may ⟨q0, q1, q2, q3, qc, qs⟩
        · have M1 := Lib.hid (print_may ⟨q0, q1, q2, q3, qc, qs⟩ wr HI.out.okq hm HI.out.env.nam HI.out.env.pow HI.out.env.pos)
          have N1 : Hid (∀ w, Calls Tryd.prog 10 #[.agg #[.int .i64 q0, .int .i64 q1, .int .i64 q2, .int .i64 q3, .int .i64 qc, .int .i64 qs]] w fun e w' => e = .returned (.bool true) ∧ Below w.heap.size w w') := Lib.hid (fun w => by
            have := may_any ⟨q0, q1, q2, q3, qc, qs⟩ w HI.out.okq
            rw [decide_eq_true hm] at this
            exact this)
          have hlen : (printR ⟨q0, q1, q2, q3, qc, qs⟩).length < 4611686018427387900 := printR_len HI.out.okq
          have N2 : Hid (∀ wr, TEnv w wr → Calls Tryd.prog 11 #[.string ⟨(printR ⟨q0, q1, q2, q3, qc, qs⟩).toArray⟩] wr fun e w' => e = .returned (.tuple #[.agg #[.int .i64 q0, .int .i64 q1, .int .i64 q2, .int .i64 q3, .int .i64 qc, .int .i64 qs], .int .i64 0, .int .i64 0]) ∧ Below wr.heap.size wr w') := Lib.hid (fun wr hE => parse_is (back_says hm) hlen hE)
          have AE : ∀ w, (Op.equalIn 9999 23 (.agg #[.int .i64 q0, .int .i64 q1, .int .i64 q2, .int .i64 q3]) (.agg #[.int .i64 q0, .int .i64 q1, .int .i64 q2, .int .i64 q3])).run Tryd.prog w = .ok true w := fun w => by rw [eqArr]; simp
          unfold str Pol.val at M1
          simp only at M1
          generalize (⟨(printR ⟨q0, q1, q2, q3, qc, qs⟩).toArray⟩ : ByteArray) = sp at *
          clear hm hlen
          go_wp2_with fail
          refine M1.out.mono ?_
          rintro e w3 ⟨rfl, hb3⟩
          have HI3 := Lib.hid (HI.out.on hb3)
          clear hb3 HI c0 c1 c2 c3 c4 c5 M1
          obtain ⟨c0, c1, c2, c3, c4, c5⟩ := HI3.out.hq
          simp only at c0 c1 c2 c3 c4 c5
          go_wp2_with fail
          refine (N1.out _).mono ?_
          rintro e w4 ⟨rfl, hb4⟩
          have HI4 := Lib.hid (HI3.out.on hb4)
          clear hb4 HI3 c0 c1 c2 c3 c4 c5 N1
          go_wp2_with fail
          refine (N2.out _ HI4.out.env).mono ?_
          rintro e w5 ⟨rfl, hb5⟩
          have HI5 : Hid (Inv w (w5.alloc (.cells #[.int .i64 q0, .int .i64 q1, .int .i64 q2, .int .i64 q3, .int .i64 qc, .int .i64 qs] 25)) w.heap.size (w.heap.size + 1) ⟨p0, p1, p2, p3, pc, ps⟩ ⟨q0, q1, q2, q3, qc, qs⟩ ∧ PHold (w5.alloc (.cells #[.int .i64 q0, .int .i64 q1, .int .i64 q2, .int .i64 q3, .int .i64 qc, .int .i64 qs] 25)) w5.heap.size ⟨q0, q1, q2, q3, qc, qs⟩) := Lib.hid ⟨HI4.out.on (past_alloc hb5 _), by unfold PHold; simp⟩
          clear hb5 HI4 N2
          go_upto_region 13 with fail
          generalize w5.alloc (.cells #[.int .i64 q0, .int .i64 q1, .int .i64 q2, .int .i64 q3, .int .i64 qc, .int .i64 qs] 25) = w6 at *
          generalize w5.heap.size = g15 at *
          obtain ⟨c0, c1, c2, c3, c4, c5⟩ := HI5.out.1.hq
          obtain ⟨d0, d1, d2, d3, d4, d5⟩ := HI5.out.2
          simp only at c0 c1 c2 c3 c4 c5 d0 d1 d2 d3 d4 d5
          go_upto_region 15 with fail
          clear d0 d1 d2 d3 d4 d5 AE
          obtain ⟨b0, b1, b2, b3, b4, b5⟩ := HI5.out.1.hp
          have f0 := HI5.out.1.fq 0 (by decide)
          have f1 := HI5.out.1.fq 1 (by decide)
          have f2 := HI5.out.1.fq 2 (by decide)
          have f3 := HI5.out.1.fq 3 (by decide)
          have f4 := HI5.out.1.fq 4 (by decide)
          have f5 := HI5.out.1.fq 5 (by decide)
          have HN := Lib.hid HI5.out.1.take
          simp only at b0 b1 b2 b3 b4 b5 HN
          go_wp2
          go_roundw
          case rel => exact ⟨j + 1, ⟨p0, p1, p2, p3, pc, ps⟩, by omega, by go_num, HN⟩
          case measure => simp [intOf]; omega
        · have M1 := Lib.hid (print_not ⟨q0, q1, q2, q3, qc, qs⟩ wr HI.out.okq hm)
          have N1 : Hid (∀ w, Calls Tryd.prog 10 #[.agg #[.int .i64 q0, .int .i64 q1, .int .i64 q2, .int .i64 q3, .int .i64 qc, .int .i64 qs]] w fun e w' => e = .returned (.bool false) ∧ Below w.heap.size w w') := Lib.hid (fun w => by
            have := may_any ⟨q0, q1, q2, q3, qc, qs⟩ w HI.out.okq
            rw [decide_eq_false hm] at this
            exact this)
          unfold str Pol.val at M1
          simp only at M1
          clear hm
          go_wp2_with fail
          refine M1.out.mono ?_
          rintro e w3 ⟨rfl, hb3⟩
          have HI3 := Lib.hid (HI.out.on hb3)
          clear hb3 HI c0 c1 c2 c3 c4 c5 M1
          obtain ⟨c0, c1, c2, c3, c4, c5⟩ := HI3.out.hq
          simp only at c0 c1 c2 c3 c4 c5
          go_wp2_with fail
          refine (N1.out _).mono ?_
          rintro e w4 ⟨rfl, hb4⟩
          have HI4 := Lib.hid (HI3.out.on hb4)
          clear hb4 HI3 c0 c1 c2 c3 c4 c5 N1
          obtain ⟨c0, c1, c2, c3, c4, c5⟩ := HI4.out.hq
          simp only at c0 c1 c2 c3 c4 c5
          obtain ⟨b0, b1, b2, b3, b4, b5⟩ := HI4.out.hp
          have f0 := HI4.out.fq 0 (by decide)
          have f1 := HI4.out.fq 1 (by decide)
          have f2 := HI4.out.fq 2 (by decide)
          have f3 := HI4.out.fq 3 (by decide)
          have f4 := HI4.out.fq 4 (by decide)
          have f5 := HI4.out.fq 5 (by decide)
          have HN := Lib.hid HI4.out.take
          simp only at b0 b1 b2 b3 b4 b5 HN
          go_wp2
          go_roundw
          case rel => exact ⟨j + 1, ⟨p0, p1, p2, p3, pc, ps⟩, by omega, by go_num, HN⟩
          case measure => simp [intOf]; omega
      · have N0 := Lib.hid (told_any wr HI.out.env.nam HI.out.env.pow HI.out.env.pos)
        go_wp2_with fail
        refine N0.out.mono ?_
        rintro e w3 ⟨rfl, hb3⟩
        have HB : Hid (Below w.heap.size w w3) := Lib.hid (past HI.out.env.below hb3)
        clear hb3
        go_wp2
        (try rw [Exit.noGoto_ret])
        go_ret
        exact ⟨rfl, HB.out⟩
end Go.Proofs.YtdiipbichlbmgaaDoor.policyBack
