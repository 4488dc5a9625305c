/-
  The walk of SegmentTwo: it returns true, and writes nothing that was there.
-/
import Derived.Test.YtepancmkopifpaaDoorMLaw
import Derived.Deep.DeepCutAuto
import Derived.Deep.RegionHeld3
set_option maxRecDepth 100000
namespace Go.Proofs.YtepancmkopifpaaDoor.segmentTwo
open Go.RowKit
attribute [local go_sem ↓] Go.wp_at_zero Go.wp_at_succ
set_option linter.unusedVariables false

theorem riT_in (l : List Int) : ∀ k : Nat, 0 ≤ riT l k ∧ riT l k ≤ 40 * (k : Int)
  | 0 => ⟨Int.le_refl _, by simp [riT]⟩
  | k + 1 => by
    have h := riT_in l k
    have h2 := mod_in (l.getD k 0) 40 (by decide)
    rw [riT]
    omega
theorem riL_in (l l1 : List Int) (len1 : Nat) : ∀ k : Nat, ∀ s ∈ riL l l1 len1 k, 0 ≤ s.1 ∧ s.1 ≤ 40 * (k : Int)
  | 0, s, h => by simp [riL] at h
  | k + 1, s, h => by
    rw [riL, List.mem_append, List.mem_singleton] at h
    rcases h with h | rfl
    · have := riL_in l l1 len1 k s h
      omega
    · have := riT_in l (k + 1)
      exact this
theorem mkS_tz {id f : Int} (l0 l1 : List Int) (len0 len1 : Nat) (hf : 0 ≤ f) : 0 ≤ (mkS id f l0 l1 len0 len1).tz ∧ (mkS id f l0 l1 len0 len1).tz ≤ f + 1610 := by
  have h7 := mod_in id 7 (by decide)
  have hn := mkN_in len0
  have hlen := mkL_len id l0 l1 len0 len1
  have hne : shiftL f (mkL id l0 l1 len0 len1) ≠ [] := fun e => by
    have := shift_len f (mkL id l0 l1 len0 len1)
    rw [e] at this
    simp at this
    omega
  obtain ⟨s, hs, e⟩ := mem_shift (last_mem hne)
  have hin := riL_in (id :: l0) l1 len1 (mkN len0) s hs
  have hlt : lastT (shiftL f (mkL id l0 l1 len0 len1)) = s.1 + f := by unfold lastT; rw [e]
  show 0 ≤ lastT (shiftL f (mkL id l0 l1 len0 len1)) + 1 + (IntKind.u64.wrap id).tmod 7 ∧ lastT (shiftL f (mkL id l0 l1 len0 len1)) + 1 + (IntKind.u64.wrap id).tmod 7 ≤ _
  omega
theorem one_raw {i f t i' t' : Int} {sm sm' : List (Int × Int)} (h1 : Raw0 ⟨i, 0, f, t, sm, []⟩) (h2 : Raw0 ⟨i', 0, t, t', sm', []⟩) (hl : (sm ++ sm').length ≤ 64) : Raw0 ⟨9, 0, f, t', sm ++ sm', []⟩ := by
  obtain ⟨_, p1, _, r1, b1⟩ := h1.has
  obtain ⟨_, p2, _, r2, b2⟩ := h2.has
  have m1 := h1.may.2.2.1
  have m2 := h2.may.2.2.1
  simp only at p1 p2 r1 r2 b1 b2 m1 m2
  obtain ⟨q1, q2⟩ := (rise_pair sm).1 r1
  obtain ⟨q3, q4⟩ := (rise_pair sm').1 r2
  refine ⟨⟨by simp only; omega, by simp only; omega, by simp only; omega, ?_⟩, rfl, fun x hx => ?_⟩
  · unfold Sg.has_
    rw [if_pos (show (⟨9, 0, f, t', sm ++ sm', []⟩ : Sg).tier = 0 from rfl)]
    refine ⟨rfl, by simp only [List.length_append]; omega, hl, (rise_pair _).2 ⟨fun x hx => ?_, List.pairwise_append.2 ⟨q2, q4, fun x hx y hy => ?_⟩⟩, fun x hx => ?_⟩
    · rcases List.mem_append.1 hx with hx | hx
      · exact q1 x hx
      · exact q3 x hx
    · have := b1 x hx
      have := b2 y hy
      omega
    · rcases List.mem_append.1 hx with hx | hx
      · have := b1 x hx
        simp only
        omega
      · have := b2 x hx
        simp only
        omega
  · rcases List.mem_append.1 hx with hx | hx
    · exact h1.small x hx
    · exact h2.small x hx
theorem segs_two {w : World} {s t : Sg} {A : Option Addr} {n ca : Nat} {B : Option Addr} {m cb : Nat} {A' : Option Addr} {n' ca' : Nat} {B' : Option Addr} {m' cb' : Nat} (h : SegAt w s A n ca B m cb) (h' : SegAt w t A' n' ca' B' m' cb') :
    Segs (w.alloc (.cells #[.int .i64 s.id, .int .i64 s.tier, .int .i64 s.fr, .int .i64 s.tz, .slice A n ca, .slice B m cb, .int .i64 t.id, .int .i64 t.tier, .int .i64 t.fr, .int .i64 t.tz, .slice A' n' ca', .slice B' m' cb'] 26)) w.heap.size 0 [s, t] := fun j hj => by
  have hj2 : j < 2 := hj
  match j, hj2 with
  | 0, _ => exact ⟨A, n, ca, B, m, cb, by simp [sgAt], by simp [sgAt], by simp [sgAt], by simp [sgAt], by simp, by simp, h.below (below_box _ _)⟩
  | 1, _ => exact ⟨A', n', ca', B', m', cb', by simp [sgAt], by simp [sgAt], by simp [sgAt], by simp [sgAt], by simp, by simp, h'.below (below_box _ _)⟩

/-- A row of samples on the way: it is the call's own. -/
structure Mid (w2 u : World) (v : Value) (n : Nat) (l : List (Int × Int)) : Prop where
  own : u.ownsRow w2.heap.size 28 2 v n (sampV l)
  below : Below w2.heap.size w2 u
theorem step_append_mid {w2 u : World} {ops : Array Oper} {o : Oper} {a : Act} {K : Act → World → Prop} {Q : Exit → Act → World → Prop} {E : Prop} (hgd : o.guard = none) (s x : Operand)
    (ho : o.op = .call { callee := .builtin .append, args := #[s, x], argTypes := #[23, 23] }) (v : Value) (n m : Nat) (l l2 : List (Int × Int)) (hs : a.eval s = v) (M : Mid w2 u v n l)
    (B : Option Addr) (c : Nat) (hx : a.eval x = .slice B m c) (hm : l2.length = m) (hr : Row u B c l2) (hlen : n + m ≤ 100000)
    (h : ∀ v' u', Mid w2 u' v' (n + m) (l ++ l2) → u.grownBy u' v.ownBlock → K (a.put o.dst v') u') : if Region.wanted o (yielded ops a.tmps) = true then Oper.wp Tryd.prog o a u K Q else E := by
  have hw : Region.wanted o (yielded ops a.tmps) = true := by simp [Region.wanted, hgd]
  rw [if_pos hw]
  obtain ⟨i0', hi, hz0, hz1, hz2⟩ := info_parts Tryd.info28
  cases B with
  | none =>
    have hc := hr.nil rfl
    subst hc
    obtain rfl : m = 0 := by have := hr.le; omega
    obtain rfl : l2 = [] := List.length_eq_zero_iff.1 hm
    have hrun := run_append_owned_none (P := Tryd.prog) (w := u) w2.heap.size 23 o.type 28 i0' 2 Tryd.underlying23 hi v n (sampV l) M.own
    have hmono : K (a.put o.dst v) u := h v u (by rw [List.append_nil]; exact M) ⟨rfl, rfl, rfl, Nat.le_refl _, fun _ _ _ => rfl⟩
    unfold Oper.wp
    simp [execOp, ho, resolve, invoke, builtin, hs, hx, hrun, Result.andThen]
    exact hmono
  | some ad =>
    refine wp_append_own u s x 23 ho w2.heap.size 28 i0' (.agg #[.int .i64 0, .int .i64 0]) 2 16 Tryd.underlying23 hi hz0 hz1 hz2 rfl (by decide) v n (sampV l) hs M.own ad m c (sampV l2) hx (by rw [sampV_length, hm]) ?_ (sampV_one _) (by unfold maxLen; omega) (by omega) M.below.size ?_
    · intro j x hj
      have hl : 0 < l2.length := by
        rcases Nat.eq_zero_or_pos l2.length with e | e
        · rw [List.length_eq_zero_iff.1 e] at hj; simp [sampV] at hj
        · exact e
      obtain ⟨b, off, e, _⟩ := hr.samps.2 hl
      injection e with e
      subst e
      exact hr.samps.news j x hj
    · intro v' w' h1 h2 _
      exact h v' w' ⟨by rw [sampV_append]; exact h1, M.below.grown h2 M.below.size (fun k e => (M.own.lt k e).1)⟩ h2
theorem Mid.empty {w2 u : World} (hb : Below w2.heap.size w2 u) : Mid w2 (u.alloc (.cells #[] 28)) (.slice (some ⟨u.heap.size, 0, none⟩) 0 0) 0 [] :=
  ⟨World.ownsRow_made u #[] 0 hb.size (Nat.zero_le _) rfl, past_alloc hb _⟩
theorem Mid.alloc {w2 u : World} {v : Value} {n : Nat} {l : List (Int × Int)} (M : Mid w2 u v n l) (o : Obj) : Mid w2 (u.alloc o) v n l := ⟨M.own.alloc o, past_alloc M.below _⟩
abbrev Z6 : Obj := .cells #[.int .i64 0, .int .i64 0, .int .i64 0, .int .i64 0, .slice none 0 0, .slice none 0 0] 26
/-- The block of a segment's variable, of zeros still. -/
structure ZAt (u : World) (g : Nat) : Prop where
  blk : ∃ C fr, u.heap[g]? = some (.cells C 26 fr)
  sv : SgV u g 0 0 0 0 (.slice none 0 0) (.slice none 0 0)
theorem ZAt.new (u : World) : ZAt (u.alloc Z6) u.heap.size := ⟨⟨_, _, lit_block u Z6⟩, SgV.new u 0 0 0 0 _ _ 26⟩
theorem ZAt.below {u u' : World} {g : Nat} (h : ZAt u g) (hb : Below u.heap.size u u') : ZAt u' g := by
  obtain ⟨⟨C, fr, hC⟩, hs⟩ := h
  exact ⟨⟨C, fr, block_on hb hC⟩, hs.below hb⟩
theorem ZAt.app {w2 u u' : World} {v : Value} {n : Nat} {l : List (Int × Int)} {g : Nat} (h : ZAt u g) (M : Mid w2 u v n l) (hg : u.grownBy u' v.ownBlock) : ZAt u' g := by
  obtain ⟨⟨C, fr, hC⟩, hs⟩ := h
  have hne : some g ≠ v.ownBlock := fun e => by
    rcases M.own.2 with ⟨ev, _⟩ | ⟨g2, cap, cur, ev, _, hh, _⟩
    · rw [ev] at e
      cases e
    · rw [ev] at e
      simp only [Value.ownBlock, Option.some.injEq] at e
      subst e
      rw [hC] at hh
      injection hh with hh
      injection hh with _ hh
      cases hh
  exact ⟨⟨C, fr, by rw [hg.block g hs.lt hne]; exact hC⟩, hs.grown hg hne⟩

/-- What the region that makes the one segment leaves. -/
structure TwoI (w3 u : World) (g1 : Nat) (f t : Int) (l : List (Int × Int)) (N : Nat) (AV : Option Addr) (cV : Nat) : Prop where
  row : Row u AV cV l
  sv : SgV u g1 9 0 f t (.slice AV N cV) (.slice none 0 0)
  below : Below w3.heap.size w3 u
theorem TwoI.of_alloc {w3 wb : World} {f t : Int} {l : List (Int × Int)} {N : Nat} {AV : Option Addr} {cV : Nat} (M : Mid w3 wb (.slice AV N cV) N l) (hr : Row wb AV cV l) :
    TwoI w3 (wb.alloc (.cells #[.int .i64 9, .int .i64 0, .int .i64 f, .int .i64 t, .slice AV N cV, .slice none 0 0] 26)) wb.heap.size f t l N AV cV :=
  ⟨hr.below (below_box _ _), SgV.new wb 9 0 f t _ _ 26, past_alloc M.below _⟩
theorem TwoI.of_set {w3 wb : World} {g1 : Nat} {f t : Int} {l : List (Int × Int)} {N : Nat} {AV : Option Addr} {cV : Nat} (M : Mid w3 wb (.slice AV N cV) N l) (hr : Row wb AV cV l) (hz : ZAt wb g1) (hg : w3.heap.size ≤ g1) :
    TwoI w3 ((((((wb.setCell ⟨g1, 0, none⟩ (.int .i64 9)).setCell ⟨g1, 1, none⟩ (.int .i64 0)).setCell ⟨g1, 2, none⟩ (.int .i64 f)).setCell ⟨g1, 3, none⟩ (.int .i64 t)).setCell ⟨g1, 4, none⟩ (.slice AV N cV)).setCell ⟨g1, 5, none⟩ (.slice none 0 0)) g1 f t l N AV cV := by
  have hne : ∀ a, AV = some a → a.block ≠ g1 := fun a e h => by
    obtain ⟨C, fr, hC⟩ := hz.blk
    rcases M.own.2 with ⟨ev, _⟩ | ⟨g2, cap, cur, ev, _, hh, _⟩
    · injection ev with ev
      rw [e] at ev
      cases ev
    · injection ev with ev
      rw [e] at ev
      injection ev with ev
      rw [ev] at h
      simp only at h
      subst h
      rw [hC] at hh
      injection hh with hh
      injection hh with _ hh
      cases hh
  have k : ∀ (u : World) (j : Nat) (x : Value), Row u AV cV l → Row (u.setCell ⟨g1, j, none⟩ x) AV cV l := fun u j x h => h.kept (fun a e => Below.heap_setCell _ _ _ _ (hne a e))
  refine ⟨k _ _ _ (k _ _ _ (k _ _ _ (k _ _ _ (k _ _ _ (k _ _ _ hr))))), ?_, below_set6 M.below hg⟩
  obtain ⟨c0, c1, c2, c3, c4, c5, z0, z1, z2, z3, z4, z5⟩ := hz.sv
  constructor <;> simp [go_sem, *]

theorem at_ok {S : Sg} (hS : Raw0 S) {id k : Int} (hid : In64 id) (hk : In64 k) {w : World} {B : Option Addr} {m cb : Nat} (hr : RowOf w B m cb (wins k S.sm)) : SegAt w (S.at_ id k) none 0 0 B m cb := by
  have hm := hS.may.2.2.1
  exact ⟨Row.none _, rfl, hr, ⟨hid, hk, by unfold In64; show _ ≤ S.fr ∧ S.fr ≤ _; omega, by unfold In64; show _ ≤ S.tz ∧ S.tz ≤ _; omega, fun x hx => by simp [Sg.at_] at hx, hr.2.1.1⟩⟩
section
variable {i f f' i' t' : Int} {sm sm' : List (Int × Int)} {A B : Option Addr} {n m ca cb : Nat} {w : World}
theorem roll_pair (h1 : Raw0 ⟨i, 0, f, f', sm, []⟩) (h2 : Raw0 ⟨i', 0, f', t', sm', []⟩) (hl : (sm ++ sm').length ≤ 64) (s1 : SegAt w ⟨i, 0, f, f', sm, []⟩ A n ca none 0 0) (s2 : SegAt w ⟨i', 0, f', t', sm', []⟩ B m cb none 0 0) (hw : Wid w) :
    Calls Tryd.prog 14 #[.slice (some ⟨w.heap.size, 0, none⟩) 2 2, .int .i64 7, .int .i64 1] (w.alloc (.cells #[.int .i64 i, .int .i64 0, .int .i64 f, .int .i64 f', .slice A n ca, .slice none 0 0, .int .i64 i', .int .i64 0, .int .i64 f', .int .i64 t', .slice B m cb, .slice none 0 0] 26))
      fun e w' => ∃ C q cc, e = .returned (.tuple #[.agg #[.int .i64 7, .int .i64 1, .int .i64 f, .int .i64 t', .slice none 0 0, .slice C q cc], .int .i64 0]) ∧ SegAt w' ⟨7, 1, f, t', [], wins 1 (sm ++ sm')⟩ none 0 0 C q cc ∧ Below w.heap.size w w' := by
  have ho := one_raw h1 h2 hl
  have hroll : rollS [⟨i, 0, f, f', sm, []⟩, ⟨i', 0, f', t', sm', []⟩] 7 1 = (Sg.at_ ⟨9, 0, f, t', sm ++ sm', []⟩ 7 1, 0) := by
    rw [roll_two (one := ⟨9, 0, f, t', sm ++ sm', []⟩) h1.may h2.may ho.may rfl rfl rfl rfl rfl rfl rfl]
    exact roll_raw ho (by omega)
  have hs := segs_two s1 s2
  have hb0 := below_box w (.cells #[.int .i64 i, .int .i64 0, .int .i64 f, .int .i64 f', .slice A n ca, .slice none 0 0, .int .i64 i', .int .i64 0, .int .i64 f', .int .i64 t', .slice B m cb, .slice none 0 0] 26)
  refine (rollG_any (L := 2) (c := 2) hs rfl (by omega) (Nat.le_refl _) (by omega) (by unfold In64; omega) (by unfold In64; omega) (hw.below hb0) (fun _ _ hch u hu => ?_)).mono ?_
  · refine rolled_raw (hs.below hu) rfl (Nat.le_refl _) (by omega) (by simp at hl ⊢; omega) ?_ ((hw.below hb0).below hu)
    intro x hx
    have hx2 : x ∈ sm ++ sm' := by simpa using hx
    rcases List.mem_append.1 hx2 with hx | hx
    · exact s1.sm.samps.1 x hx
    · exact s2.sm.samps.1 x hx
  · rintro e w' ⟨C, q, cc, he, hr, hb⟩
    rw [hroll] at he hr
    exact ⟨C, q, cc, he, at_ok ho (by unfold In64; omega) (by unfold In64; omega) hr, past hb0 hb⟩
theorem roll_single {o : Int} {l : List (Int × Int)} (ho : Raw0 ⟨o, 0, f, t', l, []⟩) (s1 : SegAt w ⟨o, 0, f, t', l, []⟩ A n ca none 0 0) (hw : Wid w) :
    Calls Tryd.prog 14 #[.slice (some ⟨w.heap.size, 0, none⟩) 1 1, .int .i64 7, .int .i64 1] (w.alloc (.cells #[.int .i64 o, .int .i64 0, .int .i64 f, .int .i64 t', .slice A n ca, .slice none 0 0] 26))
      fun e w' => ∃ C q cc, e = .returned (.tuple #[.agg #[.int .i64 7, .int .i64 1, .int .i64 f, .int .i64 t', .slice none 0 0, .slice C q cc], .int .i64 0]) ∧ SegAt w' ⟨7, 1, f, t', [], wins 1 l⟩ none 0 0 C q cc ∧ Below w.heap.size w w' := by
  have hroll : rollS [⟨o, 0, f, t', l, []⟩] 7 1 = (Sg.at_ ⟨o, 0, f, t', l, []⟩ 7 1, 0) := roll_raw ho (by omega)
  have hs := segs_one s1
  have hb0 := below_box w (.cells #[.int .i64 o, .int .i64 0, .int .i64 f, .int .i64 t', .slice A n ca, .slice none 0 0] 26)
  refine (rollG_any (L := 1) (c := 1) hs rfl (by omega) (Nat.le_refl _) (by omega) (by unfold In64; omega) (by unfold In64; omega) (hw.below hb0) (fun _ _ hch u hu => ?_)).mono ?_
  · refine rolled_raw (hs.below hu) rfl (Nat.le_refl _) (by omega) (by have := ho.has.2.2.1; simp at this ⊢; omega) ?_ ((hw.below hb0).below hu)
    intro x hx
    have hx2 : x ∈ l := by simpa using hx
    exact s1.sm.samps.1 x hx2
  · rintro e w' ⟨C, q, cc, he, hr, hb⟩
    rw [hroll] at he hr
    exact ⟨C, q, cc, he, at_ok ho (by unfold In64; omega) (by unfold In64; omega) hr, past hb0 hb⟩
theorem roll_turned (h1 : Raw0 ⟨i, 0, f, f', sm, []⟩) (h2 : Raw0 ⟨i', 0, f', t', sm', []⟩) (s1 : SegAt w ⟨i, 0, f, f', sm, []⟩ A n ca none 0 0) (s2 : SegAt w ⟨i', 0, f', t', sm', []⟩ B m cb none 0 0) (hw : Wid w) :
    Calls Tryd.prog 14 #[.slice (some ⟨w.heap.size, 0, none⟩) 2 2, .int .i64 7, .int .i64 1] (w.alloc (.cells #[.int .i64 i', .int .i64 0, .int .i64 f', .int .i64 t', .slice B m cb, .slice none 0 0, .int .i64 i, .int .i64 0, .int .i64 f, .int .i64 f', .slice A n ca, .slice none 0 0] 26))
      fun e w' => ∃ C q cc, e = .returned (.tuple #[.agg #[.int .i64 0, .int .i64 0, .int .i64 0, .int .i64 0, .slice none 0 0, .slice C q cc], .int .i64 1]) ∧ Below w.heap.size w w' := by
  have m1 := h1.may.2.2.1
  have m2 := h2.may.2.2.1
  simp only at m1 m2
  have hroll : rollS [⟨i', 0, f', t', sm', []⟩, ⟨i, 0, f, f', sm, []⟩] 7 1 = (Sg.zero, 1) := roll_back (by show t' ≠ f; omega) 7 1
  have hs := segs_two s2 s1
  have hb0 := below_box w (.cells #[.int .i64 i', .int .i64 0, .int .i64 f', .int .i64 t', .slice B m cb, .slice none 0 0, .int .i64 i, .int .i64 0, .int .i64 f, .int .i64 f', .slice A n ca, .slice none 0 0] 26)
  refine (rollG_any (L := 2) (c := 2) hs rfl (by omega) (Nat.le_refl _) (by omega) (by unfold In64; omega) (by unfold In64; omega) (hw.below hb0) (fun _ _ hch u hu => ?_)).mono ?_
  · exfalso
    have h3 := hch.2.2.2.2.1
    simp only at h3
    omega
  · rintro e w' ⟨C, q, cc, he, hr, hb⟩
    rw [hroll] at he
    exact ⟨C, q, cc, he, past hb0 hb⟩
end

set_option maxHeartbeats 2000000 in
theorem walk (a0 : Int) (a1 : Option Addr) (len1 cap1 : Nat) (l1 : List Int) (a2 : Option Addr) (len2 cap2 : Nat) (l2 : List Int) (a3 : Option Addr) (len3 cap3 : Nat) (l3 : List Int) (w : World) (w0 : (Lit.int .i64 a0).wf = true) (s1 : Ints w a1 len1 cap1 l1) (z1 : len1 * 8 ≤ 140737488351232) (s2 : Ints w a2 len2 cap2 l2) (z2 : len2 * 8 ≤ 140737488351232) (s3 : Ints w a3 len3 cap3 l3) (hw : Wid w) :
    Calls Tryd.prog 6 #[.int .i64 a0, .slice a1 len1 cap1, .slice a2 len2 cap2, .slice a3 len3 cap3] w fun e w' => e = .returned (.bool true) ∧ Below w.heap.size w w' := by
  have ha := fits_i64 w0
  have hI : In64 (IntKind.i64.wrap (a0 + 1)) := by unfold In64; rw [IntKind.wrap_i64]; omega
  obtain ⟨I, hIe⟩ : ∃ I, IntKind.i64.wrap (a0 + 1) = I := ⟨_, rfl⟩
  rw [hIe] at hI
  have htz := mkS_tz (id := a0) (f := 5) l1 l3 len1 len3 (by decide)
  obtain ⟨n, hn⟩ : ∃ n, mkN len1 = n := ⟨_, rfl⟩
  obtain ⟨m, hm⟩ : ∃ m, mkN len2 = m := ⟨_, rfl⟩
  have hn1 := mkN_in len1
  have hm1 := mkN_in len2
  rw [hn] at hn1
  rw [hm] at hm1
  have MA : Hid (Calls Tryd.prog 11 #[.int .i64 a0, .int .i64 5, .slice a1 len1 cap1, .slice a3 len3 cap3] w (MakeG w (mkS a0 5 l1 l3 len1 len3) n)) := Lib.hid (by rw [← hn]; exact make_any ha (by omega) s1 s3 z1)
  have MB : Hid (∀ f, (0 ≤ f ∧ f ≤ 1000000) → ∀ u, Below w.heap.size w u → Calls Tryd.prog 11 #[.int .i64 I, .int .i64 f, .slice a2 len2 cap2, .slice a3 len3 cap3] u (MakeG u (mkS I f l2 l3 len2 len3) m)) := Lib.hid (fun f hf u hu => by rw [← hm]; exact make_any hI hf (s2.below hu) (s3.below hu) z2)
  have HT : Hid (∀ f, (mkS I f l2 l3 len2 len3).fr = f) := Lib.hid (fun f => rfl)
  have HW := Lib.hid hw
  clear ha hI s1 s2 s3 z1 z2 w0 hn hm hw
  generalize mkS a0 5 l1 l3 len1 len3 = S at *
  go_enter Tryd.func6, Tryd.ntmps6
  go_wp2_with fail
  refine MA.out.mono ?_
  rintro e w2 ⟨A, ca, rfl, hs, hr, hb⟩
  obtain ⟨i, f, t, sm, rfl⟩ := raw0_parts hr
  go_upto_region 2 with fail
  have HX2 : Hid (Later (w2.alloc (.cells #[.int .i64 i, .int .i64 0, .int .i64 f, .int .i64 t, .slice A n ca, .slice none 0 0] 26)) fun u => SegAt u ⟨i, 0, f, t, sm, []⟩ A n ca none 0 0 ∧ SgV u w2.heap.size i 0 f t (.slice A n ca) (.slice none 0 0) ∧ Wid u ∧ Below w.heap.size w u) := Lib.hid (fun u hu => by
    have hb2 : Below w2.heap.size w2 u := past (below_box _ _) hu
    exact ⟨hs.below hb2, (SgV.new w2 i 0 f t (.slice A n ca) (.slice none 0 0) 26).below hu, HW.out.below (past hb hb2), past hb hb2⟩)
  have HRS := Lib.hid hr
  have HTZ : Hid (0 ≤ t ∧ t ≤ 1000000) := Lib.hid (by have h : 0 ≤ t ∧ t ≤ 5 + 1610 := htz; omega)
  clear hs hr hb MA htz
  generalize (w2.alloc (.cells #[.int .i64 i, .int .i64 0, .int .i64 f, .int .i64 t, .slice A n ca, .slice none 0 0] 26)) = w2' at *
  generalize w2.heap.size = g at *
  obtain ⟨c0, c1, c2, c3, c4, c5, _⟩ := HX2.out.now.2.1
  go_wp2_with fail
  refine (MB.out t HTZ.out _ HX2.out.now.2.2.2).mono ?_
  rintro e w3 ⟨B, cb, rfl, hs, hr, hb⟩
  have htf := HT.out t
  generalize mkS I t l2 l3 len2 len3 = T at *
  obtain ⟨i', f', t', sm', rfl⟩ := raw0_parts hr
  simp only at htf
  subst htf
  go_upto_region 3 with fail
  have hb3 := below_box w3 (.cells #[.int .i64 i', .int .i64 0, .int .i64 f', .int .i64 t', .slice B m cb, .slice none 0 0] 26)
  have HX3 := Lib.hid ((HX2.out.on hb).on hb3)
  have HY3 : Hid (Later (w3.alloc (.cells #[.int .i64 i', .int .i64 0, .int .i64 f', .int .i64 t', .slice B m cb, .slice none 0 0] 26)) fun u => SegAt u ⟨i', 0, f', t', sm', []⟩ B m cb none 0 0 ∧ SgV u w3.heap.size i' 0 f' t' (.slice B m cb) (.slice none 0 0)) := Lib.hid (fun u hu => ⟨hs.below (past hb3 hu), (SgV.new w3 i' 0 f' t' (.slice B m cb) (.slice none 0 0) 26).below hu⟩)
  have HRT := Lib.hid hr
  clear hs hr hb hb3 MB HT HX2 HTZ c0 c1 c2 c3 c4 c5
  generalize (w3.alloc (.cells #[.int .i64 i', .int .i64 0, .int .i64 f', .int .i64 t', .slice B m cb, .slice none 0 0] 26)) = w3' at *
  generalize w3.heap.size = g' at *
  have HST : Hid (∀ w', Below w3'.heap.size w3' w' → w'.cell? ⟨g, 2, none⟩ = some (.int .i64 f) ∧ w'.cell? ⟨g', 3, none⟩ = some (.int .i64 t') ∧ w'.cell? ⟨g, 4, none⟩ = some (.slice A n ca) ∧ w'.cell? ⟨g', 4, none⟩ = some (.slice B m cb)) := Lib.hid (fun w' h => ⟨(HX3.out w' h).2.1.c2, (HY3.out w' h).2.c3, (HX3.out w' h).2.1.c4, (HY3.out w' h).2.c4⟩)
  have HRA : Hid (∀ u, Below w3'.heap.size w3' u → Row u A ca sm) := Lib.hid (fun u hu => (HX3.out u hu).1.sm)
  have HRB : Hid (∀ u, Below w3'.heap.size w3' u → Row u B cb sm') := Lib.hid (fun u hu => (HY3.out u hu).1.sm)
  have HLA : Hid (sm.length = n) := Lib.hid HX3.out.now.1.sn
  have HLB : Hid (sm'.length = m) := Lib.hid HY3.out.now.1.sn
  have HBD : Hid (Below w3'.heap.size w3' w3'.drew) := Lib.hid (belowN _ 1)
  have HBE : Hid (Below w3'.heap.size w3' (w3'.alloc (.cells #[] 28)).drew) := Lib.hid (past_alloc HBD.out (.cells #[] 28))
  have HBZ : Hid (Below w3'.heap.size w3' (w3'.alloc Z6).drew) := Lib.hid (past_alloc HBD.out Z6)
  have HBEZ : Hid (Below w3'.heap.size w3' ((w3'.alloc (.cells #[] 28)).alloc Z6).drew) := Lib.hid (past_alloc HBE.out Z6)
  have HBZE : Hid (Below w3'.heap.size w3' ((w3'.alloc Z6).alloc (.cells #[] 28)).drew) := Lib.hid (past_alloc HBZ.out (.cells #[] 28))
  have HEA : Hid (Mid w3' (w3'.alloc (.cells #[] 28)).drew (.slice (some ⟨w3'.heap.size, 0, none⟩) 0 0) 0 []) := Lib.hid (Mid.empty HBD.out)
  have HEB : Hid (Mid w3' ((w3'.alloc (.cells #[] 28)).alloc Z6).drew (.slice (some ⟨w3'.heap.size, 0, none⟩) 0 0) 0 []) := Lib.hid (HEA.out.alloc Z6)
  have HEC : Hid (Mid w3' ((w3'.alloc Z6).alloc (.cells #[] 28)).drew (.slice (some ⟨w3'.heap.size + 1, 0, none⟩) 0 0) 0 []) := Lib.hid (by
    have := Mid.empty HBZ.out
    rw [show (w3'.alloc Z6).drew.heap.size = w3'.heap.size + 1 by simp [World.drew]] at this
    exact this)
  have HZB : Hid (ZAt ((w3'.alloc (.cells #[] 28)).alloc Z6).drew (w3'.heap.size + 1)) := Lib.hid (by
    have := ZAt.new (w3'.alloc (.cells #[] 28)).drew
    rw [show (w3'.alloc (.cells #[] 28)).drew.heap.size = w3'.heap.size + 1 by simp [World.drew]] at this
    exact this)
  have HZC : Hid (ZAt ((w3'.alloc Z6).alloc (.cells #[] 28)).drew w3'.heap.size) := Lib.hid ((ZAt.new w3'.drew).below (below_box _ (.cells #[] 28)))
  have HIN : Hid (In2 (sm ++ sm')) := Lib.hid (fun x hx => by
    rcases List.mem_append.1 hx with hx | hx
    · exact HX3.out.now.1.sm.samps.1 x hx
    · exact HY3.out.now.1.sm.samps.1 x hx)
  obtain ⟨c2, d3, c4, d4⟩ := HST.out w3' (Below.refl _ _)
  go_cut [11] (fun p wx => ∃ (g1 : Nat) (AV : Option Addr) (cV : Nat), p = .pointer (some ⟨g1, 0, none⟩) ∧ Hid (TwoI w3' wx g1 f t' (sm ++ sm') (n + m) AV cV))
  case first =>
    go_region_held3 (fun w' => w'.cell? ⟨g, 2, none⟩ = some (.int .i64 f) ∧ w'.cell? ⟨g', 3, none⟩ = some (.int .i64 t') ∧ w'.cell? ⟨g, 4, none⟩ = some (.slice A n ca) ∧ w'.cell? ⟨g', 4, none⟩ = some (.slice B m cb))
      (with_reducible refine HST.out _ ?_; first
        | with_reducible exact HMb.out.below
        | with_reducible exact HMa.out.below
        | with_reducible exact HBD.out
        | with_reducible exact HBE.out
        | with_reducible exact HBZ.out
        | with_reducible exact HBEZ.out
        | with_reducible exact HBZE.out
        | with_reducible exact past_alloc HMb.out.below _
        | with_reducible exact past_alloc HMa.out.below _
        | (with_reducible refine below_set6 HMb.out.below ?_; first | with_reducible exact Nat.le_refl _ | exact Nat.le_succ _ | exact HMa.out.below.size))
      (first
        | (refine step_append_mid (w2 := w3') (by rfl) _ _ (by rfl) _ 0 n [] sm (by rfl) HEA.out A ca (by rfl) HLA.out (HRA.out _ HBE.out) (by omega) ?_; intro va wa hMa hGa; rw [Nat.zero_add, List.nil_append] at hMa; have HMa := Lib.hid hMa; have hSa := HST.out _ hMa.below; clear hMa hGa)
        | (refine step_append_mid (w2 := w3') (by rfl) _ _ (by rfl) _ 0 n [] sm (by rfl) HEB.out A ca (by rfl) HLA.out (HRA.out _ HBEZ.out) (by omega) ?_; intro va wa hMa hGa; rw [Nat.zero_add, List.nil_append] at hMa; have HMa := Lib.hid hMa; have hSa := HST.out _ hMa.below; have HZa := Lib.hid (HZB.out.app HEB.out hGa); clear hMa hGa)
        | (refine step_append_mid (w2 := w3') (by rfl) _ _ (by rfl) _ 0 n [] sm (by rfl) HEC.out A ca (by rfl) HLA.out (HRA.out _ HBZE.out) (by omega) ?_; intro va wa hMa hGa; rw [Nat.zero_add, List.nil_append] at hMa; have HMa := Lib.hid hMa; have hSa := HST.out _ hMa.below; have HZa := Lib.hid (HZC.out.app HEC.out hGa); clear hMa hGa)
        | (refine step_append_mid (w2 := w3') (by rfl) _ _ (by rfl) _ n m sm sm' (by rfl) (HMa.out.alloc Z6) B cb (by rfl) HLB.out (HRB.out _ (past_alloc HMa.out.below _)) (by omega) ?_; intro vb wb hMb hGb; obtain ⟨AV, cV, rfl, hrV, hlV, hfV⟩ := row_of_own hMb.own HIN.out; have HMb := Lib.hid hMb; have HRV := Lib.hid hrV; have HLV := Lib.hid hlV; have hSb := HST.out _ hMb.below; have hZb := (ZAt.new wa).app (HMa.out.alloc Z6) hGb; have HZb := Lib.hid hZb; obtain ⟨p0, p1, p2, p3, p4, p5, q0, q1, q2, q3, q4, q5⟩ := hZb.sv; clear hZb; clear hMb hGb hrV hlV hfV)
        | (refine step_append_mid (w2 := w3') (by rfl) _ _ (by rfl) _ n m sm sm' (by rfl) HMa.out B cb (by rfl) HLB.out (HRB.out _ HMa.out.below) (by omega) ?_; intro vb wb hMb hGb; obtain ⟨AV, cV, rfl, hrV, hlV, hfV⟩ := row_of_own hMb.own HIN.out; have HMb := Lib.hid hMb; have HRV := Lib.hid hrV; have HLV := Lib.hid hlV; have hSb := HST.out _ hMb.below; have hZb := HZa.out.app HMa.out hGb; have HZb := Lib.hid hZb; obtain ⟨p0, p1, p2, p3, p4, p5, q0, q1, q2, q3, q4, q5⟩ := hZb.sv; clear hZb; clear hMb hGb hrV hlV hfV)
        | (refine step_append_mid (w2 := w3') (by rfl) _ _ (by rfl) _ n m sm sm' (by rfl) HMa.out B cb (by rfl) HLB.out (HRB.out _ HMa.out.below) (by omega) ?_; intro vb wb hMb hGb; obtain ⟨AV, cV, rfl, hrV, hlV, hfV⟩ := row_of_own hMb.own HIN.out; have HMb := Lib.hid hMb; have HRV := Lib.hid hrV; have HLV := Lib.hid hlV; have hSb := HST.out _ hMb.below; clear hMb hGb hrV hlV hfV)
        | fail)
    all_goals
      go_wp2_with fail
      go_meet
      first
        | (refine ⟨wb.heap.size, AV, cV, by with_reducible rfl, Lib.hid ?_⟩; with_reducible exact TwoI.of_alloc HMb.out HRV.out)
        | (refine ⟨wa.heap.size, AV, cV, by with_reducible rfl, Lib.hid ?_⟩; with_reducible exact TwoI.of_set HMb.out HRV.out HZb.out HMa.out.below.size)
        | (refine ⟨w3'.heap.size + 1, AV, cV, by with_reducible rfl, Lib.hid ?_⟩; with_reducible exact TwoI.of_set HMb.out HRV.out HZb.out (Nat.le_succ _))
        | (refine ⟨w3'.heap.size, AV, cV, by with_reducible rfl, Lib.hid ?_⟩; with_reducible exact TwoI.of_set HMb.out HRV.out HZb.out (Nat.le_refl _))
  case rest =>
    obtain ⟨g1, AV, cV, rfl, HTI⟩ := hcut
    have HX : Hid (Later wc fun u => SegAt u ⟨i, 0, f, f', sm, []⟩ A n ca none 0 0 ∧ SgV u g i 0 f f' (.slice A n ca) (.slice none 0 0) ∧ SegAt u ⟨i', 0, f', t', sm', []⟩ B m cb none 0 0 ∧ SgV u g' i' 0 f' t' (.slice B m cb) (.slice none 0 0) ∧ Row u AV cV (sm ++ sm') ∧ SgV u g1 9 0 f t' (.slice AV (n + m) cV) (.slice none 0 0) ∧ Wid u ∧ Below w.heap.size w u) := Lib.hid (fun u hu => by
      have hb := past HTI.out.below hu
      exact ⟨(HX3.out u hb).1, (HX3.out u hb).2.1, (HY3.out u hb).1, (HY3.out u hb).2, HTI.out.row.below hu, HTI.out.sv.below hu, (HX3.out u hb).2.2.1, (HX3.out u hb).2.2.2⟩)
    have HLL : Hid ((sm ++ sm').length = n + m) := Lib.hid (by rw [List.length_append, HLA.out, HLB.out])
    clear HTI HX3 HY3 HST HRA HRB HLA HLB HBD HBE HBZ HBEZ HBZE HEA HEB HEC HZB HZC c2 d3 c4 d4
    have c4 := HX.out.now.2.2.2.2.2.1.c4
    by_cases hN : n + m ≤ 64
    · have i1 : ¬ ((n + m : Nat) : Int) > 64 := by omega
      have ho := one_raw HRS.out HRT.out (by rw [HLL.out]; exact hN)
      have HO := Lib.hid ho
      have hmo := ho.may.2.2.1
      simp only at hmo
      have HSO : Hid (∀ u, Below wc.heap.size wc u → SegAt u ⟨9, 0, f, t', sm ++ sm', []⟩ AV (n + m) cV none 0 0) := Lib.hid (fun u hu => ⟨(HX.out u hu).2.2.2.2.1, HLL.out, rowOf_nil _, ⟨by unfold In64; simp only; omega, by unfold In64; simp only; omega, by unfold In64; simp only; omega, by unfold In64; simp only; omega, HIN.out, fun a ha => by simp at ha⟩⟩)
      clear ho hmo
      go_upto_region 6 with fail
      have HHL : Hid ((sm ++ sm').length ≤ 64) := Lib.hid (by rw [HLL.out]; exact hN)
      clear c4 i1 hN
      obtain ⟨a0', a1', a2', a3', a4', a5', _⟩ := HX.out.now.2.1
      obtain ⟨b0', b1', b2', b3', b4', b5', _⟩ := HX.out.now.2.2.2.1
      go_wp2_with fail
      refine (roll_pair HRS.out HRT.out HHL.out HX.out.now.1 HX.out.now.2.2.1 HX.out.now.2.2.2.2.2.2.1).mono ?_
      rintro e w5 ⟨C1, n1, q1, rfl, hx, hb⟩
      go_upto_region 7 with fail
      have hb6 := below_box w5 (.cells #[.int .i64 7, .int .i64 1, .int .i64 f, .int .i64 t', .slice none 0 0, .slice C1 n1 q1] 26)
      have HX6 := Lib.hid ((HX.out.on hb).on hb6)
      have HSO6 : Hid (∀ u, Below (w5.alloc (.cells #[.int .i64 7, .int .i64 1, .int .i64 f, .int .i64 t', .slice none 0 0, .slice C1 n1 q1] 26)).heap.size (w5.alloc (.cells #[.int .i64 7, .int .i64 1, .int .i64 f, .int .i64 t', .slice none 0 0, .slice C1 n1 q1] 26)) u → SegAt u ⟨9, 0, f, t', sm ++ sm', []⟩ AV (n + m) cV none 0 0) := Lib.hid (fun u hu => HSO.out u (past hb (past hb6 hu)))
      have HY6 : Hid (Later (w5.alloc (.cells #[.int .i64 7, .int .i64 1, .int .i64 f, .int .i64 t', .slice none 0 0, .slice C1 n1 q1] 26)) fun u => SegAt u ⟨7, 1, f, t', [], wins 1 (sm ++ sm')⟩ none 0 0 C1 n1 q1 ∧ SgV u w5.heap.size 7 1 f t' (.slice none 0 0) (.slice C1 n1 q1)) := Lib.hid (fun u hu => ⟨hx.below (past hb6 hu), (SgV.new w5 7 1 f t' (.slice none 0 0) (.slice C1 n1 q1) 26).below hu⟩)
      clear hx hb hb6 HX HSO a0' a1' a2' a3' a4' a5' b0' b1' b2' b3' b4' b5'
      generalize (w5.alloc (.cells #[.int .i64 7, .int .i64 1, .int .i64 f, .int .i64 t', .slice none 0 0, .slice C1 n1 q1] 26)) = w6 at *
      generalize w5.heap.size = gx at *
      obtain ⟨a0', a1', a2', a3', a4', a5', _⟩ := HX6.out.now.2.2.2.2.2.1
      go_wp2_with fail
      refine (roll_single HO.out (HSO6.out _ (Below.refl _ _)) HX6.out.now.2.2.2.2.2.2.1).mono ?_
      rintro e w7 ⟨C2, n2, q2, rfl, hx, hb⟩
      go_upto_region 8 with fail
      have hb8 := below_box w7 (.cells #[.int .i64 7, .int .i64 1, .int .i64 f, .int .i64 t', .slice none 0 0, .slice C2 n2 q2] 26)
      have HX8 := Lib.hid ((HX6.out.on hb).on hb8)
      have HY8 := Lib.hid ((HY6.out.on hb).on hb8)
      have HZ8 : Hid (Later (w7.alloc (.cells #[.int .i64 7, .int .i64 1, .int .i64 f, .int .i64 t', .slice none 0 0, .slice C2 n2 q2] 26)) fun u => SegAt u ⟨7, 1, f, t', [], wins 1 (sm ++ sm')⟩ none 0 0 C2 n2 q2 ∧ SgV u w7.heap.size 7 1 f t' (.slice none 0 0) (.slice C2 n2 q2)) := Lib.hid (fun u hu => ⟨hx.below (past hb8 hu), (SgV.new w7 7 1 f t' (.slice none 0 0) (.slice C2 n2 q2) 26).below hu⟩)
      clear hx hb hb8 HX6 HY6 HSO6 a0' a1' a2' a3' a4' a5'
      generalize (w7.alloc (.cells #[.int .i64 7, .int .i64 1, .int .i64 f, .int .i64 t', .slice none 0 0, .slice C2 n2 q2] 26)) = w8 at *
      generalize w7.heap.size = gy at *
      obtain ⟨a0', a1', a2', a3', a4', a5', _⟩ := HX8.out.now.2.1
      obtain ⟨b0', b1', b2', b3', b4', b5', _⟩ := HX8.out.now.2.2.2.1
      go_wp2_with fail
      refine (roll_turned HRS.out HRT.out HX8.out.now.1 HX8.out.now.2.2.1 HX8.out.now.2.2.2.2.2.2.1).mono ?_
      rintro e w9 ⟨C3, n3, q3, rfl, hb⟩
      go_upto_region 9 with fail
      have hb10 := below_box w9 (.cells #[.int .i64 0, .int .i64 0, .int .i64 0, .int .i64 0, .slice none 0 0, .slice C3 n3 q3] 26)
      have HX10 := Lib.hid ((HX8.out.on hb).on hb10)
      have HY10 := Lib.hid ((HY8.out.on hb).on hb10)
      have HZ10 := Lib.hid ((HZ8.out.on hb).on hb10)
      clear hb hb10 HX8 HY8 HZ8 a0' a1' a2' a3' a4' a5' b0' b1' b2' b3' b4' b5'
      generalize (w9.alloc (.cells #[.int .i64 0, .int .i64 0, .int .i64 0, .int .i64 0, .slice none 0 0, .slice C3 n3 q3] 26)) = w10 at *
      go_wp2_with fail
      refine (told_any _ HX10.out.now.2.2.2.2.2.2.1).mono ?_
      rintro e w11 ⟨rfl, hb⟩
      have HX11 := Lib.hid (HX10.out.on hb)
      have HY11 := Lib.hid (HY10.out.on hb)
      have HZ11 := Lib.hid (HZ10.out.on hb)
      clear hb HX10 HY10 HZ10
      obtain ⟨a0', a1', a2', a3', a4', a5', _⟩ := HY11.out.now.2
      obtain ⟨b0', b1', b2', b3', b4', b5', _⟩ := HZ11.out.now.2
      go_wp2_with fail
      refine (sameG_eq HY11.out.now.1 HZ11.out.now.1).mono ?_
      rintro e w12 ⟨rfl, hb⟩
      have HB12 := Lib.hid (past HX11.out.now.2.2.2.2.2.2.2 hb)
      clear hb HX11 HY11 HZ11 a0' a1' a2' a3' a4' a5' b0' b1' b2' b3' b4' b5'
      go_wp2
      go_ret
      exact ⟨rfl, HB12.out⟩
    · have i1 : ((n + m : Nat) : Int) > 64 := by omega
      go_wp2_with fail
      refine (told_any _ HX.out.now.2.2.2.2.2.2.1).mono ?_
      rintro e w9 ⟨rfl, hb⟩
      have HB9 := Lib.hid (past HX.out.now.2.2.2.2.2.2.2 hb)
      clear hb HX
      go_wp2
      go_ret
      exact ⟨rfl, HB9.out⟩
end Go.Proofs.YtepancmkopifpaaDoor.segmentTwo
