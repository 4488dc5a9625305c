/-
  append of rows of bytes as an equation; bytes.Clone and disk's Read: what each returns; nothing that was there is written.
-/
import Derived.Test.YtofjealjecfkiaaFUsed
import Derived.Maps.AppendAt
import Derived.Lib.AppendZeros
set_option maxRecDepth 100000
namespace Go.Proofs.Ytofjealjecfkiaa
open Go.RowKit
attribute [local go_sem ↓] Go.wp_at_zero Go.wp_at_succ
set_option linter.unusedVariables false
variable {w : World} {base p room rc : Nat} {R : Option Addr} {fs : List Fl}

theorem BRow.cells {A : Option Addr} {n cap : Nat} {bs : List Nat} {w : World} (h : BRow w A n cap bs) {ad : Addr} (e : A = some ad) : ∀ j u, (bytesV bs)[j]? = some u → w.cell? (ad.add j) = some u := by
  intro j u hj
  have hl : j < bs.length := by
    rcases Nat.lt_or_ge j bs.length with q | q
    · exact q
    · rw [List.getElem?_eq_none (by rw [bytesV_length]; exact q)] at hj; cases hj
  obtain ⟨ad', e', hc⟩ := h.bytes.2 (by omega)
  rw [e] at e'
  injection e' with e'
  subst e'
  rw [bytesV_get _ _ hl] at hj
  injection hj with hj
  rw [← hj]
  exact hc j hl
/-- append(v, x...), v the call's own row of bytes: what it gives, and where that lies. -/
theorem run_append_b (w : World) (base : Nat) (v : Value) (n m : Nat) (l l2 : List Nat) (hown : w.ownsRow base 5 1 v n (bytesV l)) (B : Option Addr) (c : Nat) (hr : BRow w B m c l2) (hlen : n + m ≤ 4000000) (hbase : base ≤ w.heap.size) :
    ∃ v' w', (∀ ty, (Builtin.append_ #[22, 22] ty #[v, .slice B m c]).run Try.prog w = .ok v' w') ∧ w'.ownsRow base 5 1 v' (n + m) (bytesV (l ++ l2)) ∧ w.grownBy w' v.ownBlock ∧ (v'.ownBlock = v.ownBlock ∨ v'.ownBlock = some w.heap.size) := by
  obtain ⟨i0', hi, hz0, hz1, hz2⟩ := info_parts Try.info5
  have hm := hr.len
  cases B with
  | none =>
    have hc := hr.nil rfl
    subst hc
    obtain rfl : m = 0 := by have := hr.le; omega
    obtain rfl : l2 = [] := List.length_eq_zero_iff.1 hm
    refine ⟨v, w, fun ty => run_append_owned_none w base 22 ty 5 i0' 1 Try.underlying22 hi v n (bytesV l) hown, ?_, ⟨rfl, rfl, rfl, Nat.le_refl _, fun _ _ _ => rfl⟩, .inl rfl⟩
    rw [List.append_nil]
    exact hown
  | some ad =>
    obtain ⟨v', w', q1, q2, q3, _, q5⟩ := run_append_own_at (P := Try.prog) w base 22 22 5 i0' (.int .u8 0) 1 1 Try.underlying22 hi hz0 hz1 hz2 rfl (by decide) v n (bytesV l) hown ad m c (bytesV l2) (by rw [bytesV_length, hm]; omega) (hr.cells rfl) (bytesV_one _) (by unfold maxLen; omega) (by omega) hbase
    exact ⟨v', w', fun _ => q1, by rw [bytesV_append]; exact q2, q3, q5⟩

theorem eqNil (A : Option Addr) (n c : Nat) (w : World) : (binOp .eql 22 (.slice A n c) (.slice none 0 0)).run Try.prog w = .ok (.bool A.isNone) w := Lib.run_eql_slice_nil w 22 5 A n c 0 0 Try.underlying22

/-- A row of bytes that a call gives out: it lies from F on; nothing that was there is written. -/
structure OutB (w w' : World) (F : Nat) (A : Option Addr) (n cap : Nat) (l : List Nat) : Prop where
  row : BRow w' A n cap l
  fresh : ∀ a, A = some a → F ≤ a.block ∧ a.block < w'.heap.size
  below : Below w.heap.size w w'

set_option maxHeartbeats 1000000 in
theorem bclone_any {A : Option Addr} {cap n : Nat} {l : List Nat} {w : World} (hr : BRow w A n cap l) (hl : n ≤ 2000000) :
    Calls Try.prog 21 #[.slice A n cap] w fun e w' => ∃ A' cap', e = .returned (.slice A' n cap') ∧ OutB w w' w.heap.size A' n cap' l := by
  cases A with
  | none =>
    have hc := hr.nil rfl
    subst hc
    have hn := hr.len
    obtain rfl : n = 0 := by have := hr.le; omega
    obtain rfl : l = [] := List.length_eq_zero_iff.1 hn
    have q : ∀ w, (binOp .eql 22 (.slice none 0 0) (.slice none 0 0)).run Try.prog w = .ok (.bool true) w := fun w => eqNil none 0 0 w
    go_enter Try.func21, Try.ntmps21
    go_wp2
    (try simp only [Exit.inBlock, Exit.then])
    go_ret
    exact ⟨Option.none, 0, rfl, BRow.none _, (fun a h => by cases h), Below.refl _ _⟩
  | some ad =>
    have q : ∀ w, (binOp .eql 22 (.slice (some ad) n cap) (.slice none 0 0)).run Try.prog w = .ok (.bool false) w := fun w => eqNil (some ad) n cap w
    obtain ⟨w9, hw9⟩ : ∃ w9, w9 = w.alloc (.cells #[] 5) := ⟨_, rfl⟩
    have o9 : w9.ownsRow w.heap.size 5 1 (.slice (some ⟨w.heap.size, 0, none⟩) 0 0) 0 (bytesV []) := by rw [hw9]; exact World.ownsRow_made w #[] 0 (Nat.le_refl _) (Nat.zero_le _) rfl
    have hB9 : Below w.heap.size w w9 := by rw [hw9]; exact past_alloc (Below.refl _ _) _
    obtain ⟨v', w', q1, q2, q3, _⟩ := run_append_b w9 w.heap.size _ 0 n [] l o9 (some ad) cap (hr.below hB9) (by omega) hB9.size
    have hB' : Below w.heap.size w w' := hB9.grown q3 hB9.size (fun k h => (o9.lt k h).1)
    rw [List.nil_append, Nat.zero_add] at q2
    obtain ⟨A', cap', rfl, hrow, hfr⟩ := brow_of_own q2 hr.bytes.1
    have HF : Hid (OutB w w' w.heap.size A' n cap' l) := Lib.hid ⟨hrow, fun a e => ⟨hfr a e, by subst e; exact (q2.lt a.block rfl).2⟩, hB'⟩
    have HQ := Lib.hid q1
    have W9 := Lib.hid hw9
    clear hr hw9 o9 hB9 q1 q2 q3 hB' hrow hfr
    go_enter Try.func21, Try.ntmps21
    go_wp2_with (at_builtin; rw [← W9.out]; refine Lib.wpList_append_run _ rfl _ _ _ _ rfl _ _ rfl rfl _ _ (HQ.out _) ?_)
    go_wp2
    go_ret
    exact ⟨A', cap', rfl, HF.out⟩

theorem lookC_there {fs : List Fl} {s : List UInt8} (h : (lookC fs s).2 = 0) : ∃ f, fs[(lookC fs s).1]? = some f ∧ f.nm = s ∧ (lookC fs s).1 < fs.length ∧ isNm s = true := by
  unfold lookC at h ⊢
  by_cases h1 : isNm s = true
  · rw [if_pos h1] at h ⊢
    by_cases h2 : (plc fs s).2 = true
    · rw [if_pos h2] at h ⊢
      have := place_there (l := fs.map Fl.nm) h2
      rw [List.getElem?_map] at this
      change Option.map Fl.nm fs[(plc fs s).1]? = some s at this
      rcases hf : fs[(plc fs s).1]? with _ | f
      · rw [hf] at this; cases this
      · rw [hf] at this
        injection this with this
        exact ⟨f, rfl, this, (List.getElem?_eq_some_iff.1 hf).1, h1⟩
    · rw [if_neg h2] at h
      cases h
  · rw [if_neg h1] at h
    cases h
theorem lookC_le (fs : List Fl) (s : List UInt8) : (lookC fs s).1 ≤ fs.length ∧ ((lookC fs s).2 = 0 ∨ (lookC fs s).2 = 1 ∨ (lookC fs s).2 = 9) := by
  unfold lookC
  have := plc_le fs s
  split
  · split
    · exact ⟨this, by simp⟩
    · exact ⟨this, by simp⟩
  · exact ⟨Nat.zero_le _, by simp⟩
theorem file_brow (h : DiskAt w base p room R rc fs) {f : Fl} (hf : f ∈ fs) : BRow w f.A f.b.length f.cap f.b := by
  obtain ⟨A', cap', e, hrow, _⟩ := brow_of_own (h.own f hf) (h.ok.byte f hf)
  unfold Fl.row at e
  injection e with e1 e2 e3
  rw [e1, e3]
  exact hrow
theorem le_sum : ∀ {l : List Nat} {x : Nat}, x ∈ l → x ≤ l.sum
  | [], _, h => by simp at h
  | y :: r, x, h => by
    rw [List.sum_cons]
    rcases List.mem_cons.1 h with rfl | h
    · omega
    · have := le_sum h
      omega
theorem file_len (h : DiskAt w base p room R rc fs) {f : Fl} (hf : f ∈ fs) : f.b.length ≤ room := by
  refine Nat.le_trans ?_ h.ok.used
  exact le_sum (List.mem_map.2 ⟨f, hf, rfl⟩)

set_option maxHeartbeats 1000000 in
theorem read_none (s : List UInt8) (h : DiskAt w base p room R rc fs) (hc : (lookC fs s).2 ≠ 0) :
    Calls Try.prog 12 #[.pointer (some ⟨p, 0, none⟩), str s] w fun e w' => e = .returned (.tuple #[.slice none 0 0, .int .i64 ((lookC fs s).2 : Int)]) ∧ w = w' := by
  have M := Lib.hid (look_any s h)
  generalize (lookC fs s).1 = a at *
  generalize (lookC fs s).2 = c at *
  have hc' : ¬ (c : Int) = 0 := by omega
  clear h hc
  go_enter Try.func12, Try.ntmps12
  go_wp2_with fail
  refine M.out.mono ?_
  rintro e w' ⟨rfl, rfl⟩
  go_wp2
  go_ret2
  exact ⟨rfl, rfl⟩
set_option maxHeartbeats 1000000 in
theorem read_there (s : List UInt8) (h : DiskAt w base p room R rc fs) {f : Fl} (hc : (lookC fs s).2 = 0) (hf : fs[(lookC fs s).1]? = some f) :
    Calls Try.prog 12 #[.pointer (some ⟨p, 0, none⟩), str s] w fun e w' => ∃ A' cap', e = .returned (.tuple #[.slice A' f.b.length cap', .int .i64 0]) ∧ OutB w w' w.heap.size A' f.b.length cap' f.b := by
  have m := look_any s h
  have hlt := (List.getElem?_eq_some_iff.1 hf).1
  have hmem : f ∈ fs := List.mem_of_getElem? hf
  obtain ⟨g, rfl, _, _, hle1, hle2, _, hcell⟩ := h.at_ (by omega)
  have k1 := (hcell _ f hf).2.1
  have c1 := h.cell1
  have hfew := h.ok.few
  have hfl := file_len h hmem
  have hbig := h.ok.big
  have M2 := Lib.hid (bclone_any (file_brow h hmem) (by omega))
  rw [hc] at m
  have M := Lib.hid m
  unfold maxLen at hle2
  unfold Fl.row at k1
  generalize fs.length = n at *
  generalize (lookC fs s).1 = a at *
  clear m hc hf hmem hcell h
  generalize f.b = bs at *
  generalize bs.length = L at *
  generalize f.A = A at *
  generalize f.cap = cap at *
  go_enter Try.func12, Try.ntmps12
  go_wp2_with fail
  refine M.out.mono ?_
  rintro e w' ⟨rfl, rfl⟩
  go_wp2_with fail
  refine M2.out.mono ?_
  rintro e w' ⟨A', cap', rfl, HO⟩
  have HO' := Lib.hid HO
  clear HO
  go_wp2
  go_ret2
  exact ⟨A', cap', rfl, HO'.out⟩
end Go.Proofs.Ytofjealjecfkiaa
