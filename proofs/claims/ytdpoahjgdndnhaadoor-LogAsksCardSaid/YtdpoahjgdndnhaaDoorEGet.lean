/-
  The reader's number and text: what each takes; nothing else that was there is written.
-/
import Derived.Test.YtdpoahjgdndnhaaDoorEPut
import Derived.Test.YtdpoahjgdndnhaaDoorEReadM
set_option maxRecDepth 100000
namespace Go.Proofs.YtdpoahjgdndnhaaDoor
open Go.RowKit
attribute [local go_sem ↓] Go.wp_at_zero Go.wp_at_succ
set_option linter.unusedVariables false

/-- A reader's variable: what is left. -/
structure RdAt (w : World) (g B : Nat) (bs : List Nat) : Prop where
  c : ∃ (A : Option Addr) (n cap : Nat), w.cell? ⟨g, 0, none⟩ = some (.slice A n cap) ∧ BRow w A n cap bs ∧ ∀ ad, A = some ad → ad.block < B
  lo : B ≤ g
  f : w.frozen? ⟨g, 0, none⟩ = false
theorem RdAt.lt {w : World} {g B : Nat} {bs : List Nat} (h : RdAt w g B bs) : g < w.heap.size := by
  obtain ⟨A, n, cap, hc, _⟩ := h.c
  exact World.block_lt_of_cell? w _ hc
theorem RdAt.below {w w' : World} {g B : Nat} {bs : List Nat} (h : RdAt w g B bs) (hb : Below w.heap.size w w') : RdAt w' g B bs := by
  have hg := h.lt
  obtain ⟨A, n, cap, hc, hr, hn⟩ := h.c
  exact ⟨⟨A, n, cap, by rw [hb.cell hg]; exact hc, hr.below hb, hn⟩, h.lo, by rw [hb.frozen hg]; exact h.f⟩
theorem BRow.set {w : World} {A : Option Addr} {n cap : Nat} {bs : List Nat} (h : BRow w A n cap bs) {a : Addr} (ha : ∀ ad, A = some ad → ad.block ≠ a.block) (v : Value) : BRow (w.setCell a v) A n cap bs := by
  refine ⟨⟨h.bytes.1, fun hp => ?_⟩, h.len, h.le, h.max, h.nil⟩
  obtain ⟨b, off, e, hc⟩ := h.bytes.at_ hp
  refine ⟨⟨b, off, Option.none⟩, e, fun j hj => ?_⟩
  rw [addr_add, World.cell?_setCell_far w a ⟨b, off + j, Option.none⟩ v (fun e2 => ha _ e e2.symm)]
  exact hc j hj

/-- What number takes. -/
def NumPost2 (w : World) (g B : Nat) (bs : List Nat) (en : Ending) (w' : World) : Prop :=
  en = .returned (.int .u64 ((numT bs).1 : Int)) ∧ RdAt w' g B (numT bs).2 ∧ w.grownBy w' (some g) ∧ ∀ ad, w'.frozen? ad = w.frozen? ad
theorem numT_some {bs : List Nat} {v k : Nat} (h : dec 0 0 bs = some (v, k)) : numT bs = (v, bs.drop k) := by unfold numT; rw [h]
theorem numT_none {bs : List Nat} (h : dec 0 0 bs = none) : numT bs = (0, bs) := by unfold numT; rw [h]
theorem dec_le {bs : List Nat} {v k : Nat} (hb : ∀ c ∈ bs, c < 256) (h : dec 0 0 bs = some (v, k)) : k ≤ bs.length ∧ v < 18446744073709551616 := by
  obtain ⟨n, e, h1, h2, h3, _⟩ := dec_only bs 0 0 v k hb (by decide) h
  simp only [Nat.pow_zero, Nat.mul_one, Nat.zero_add] at e h1
  subst e
  exact ⟨by omega, h1⟩
theorem numT_lt {bs : List Nat} (hb : ∀ c ∈ bs, c < 256) : (numT bs).1 < 18446744073709551616 := by
  cases h : dec 0 0 bs with
  | none => rw [numT_none h]; show 0 < 18446744073709551616; omega
  | some x => rw [numT_some h]; exact (dec_le hb h).2
theorem numT_sub {bs : List Nat} (hb : ∀ c ∈ bs, c < 256) : ∀ c ∈ (numT bs).2, c < 256 := by
  cases h : dec 0 0 bs with
  | none => rw [numT_none h]; exact hb
  | some x => rw [numT_some h]; exact fun c hc => hb c (List.mem_of_mem_drop hc)
theorem add_block (a : Addr) (k : Nat) : (a.add k).block = a.block := by
  unfold Addr.add
  split <;> rfl
theorem slice_off {A : Option Addr} {n cap k : Nat} {l : List Nat} {w : World} (hr : BRow w A n cap l) (h : k ≤ n) :
    ∃ A2, (∀ w, (Instr.slice 26 (.slice A n cap) (some (.int .i64 (k : Int))) none none).run Tryd.prog w = .ok (.slice A2 (n - k) (cap - k)) w) ∧ BRow w A2 (n - k) (cap - k) (l.drop k) ∧ ∀ ad2, A2 = some ad2 → ∃ ad, A = some ad ∧ ad2.block = ad.block := by
  obtain ⟨A2, h1, h2⟩ := sliceB_lo hr h
  refine ⟨A2, h1, h2, fun ad2 e => ?_⟩
  have h3 := h1 w
  have hc := hr.le
  rw [run_slice_l w 26 A n cap Tryd.underlying26 .i64 (k : Int) (by omega) (by omega), size29] at h3
  simp [Result.andThen, sliced] at h3
  rw [e] at h3
  split at h3
  · exact ⟨ad2, h3, rfl⟩
  · cases A with
    | none => simp at h3
    | some a => exact ⟨a, rfl, by simp at h3; rw [← h3]; exact add_block _ _⟩

set_option maxHeartbeats 2000000 in
theorem number_any {g B : Nat} {bs : List Nat} {w : World} (h : RdAt w g B bs) : Calls Tryd.prog 65 #[.pointer (some ⟨g, 0, none⟩)] w (NumPost2 w g B bs) := by
  obtain ⟨A, n, cap, hc, hr, hne⟩ := h.c
  have hf := h.f
  have hg := h.lt
  have hlo := h.lo
  have hk : ∃ k, k ≤ n ∧ (numT bs).2 = bs.drop k ∧ ∃ c, Calls Tryd.prog 78 #[.slice A n cap, .int .i64 0] w fun e w' => e = .returned (.tuple #[.int .u64 ((numT bs).1 : Int), .int .i64 ((k : Nat) : Int), .int .i64 c]) ∧ w = w' := by
    cases hd : dec 0 0 bs with
    | none =>
      rw [numT_none hd]
      refine ⟨0, Nat.zero_le _, rfl, 2, ?_⟩
      have := get_none (p := 0) (w := w) hr.len hr.bytes hr.le hr.max (Nat.zero_le _) (by simpa using hd)
      simpa using this
    | some x =>
      obtain ⟨v, k⟩ := x
      rw [numT_some hd]
      refine ⟨k, by rw [← hr.len]; exact (dec_le hr.bytes.1 hd).1, rfl, 0, ?_⟩
      have := get_some (p := 0) (w := w) hr.len hr.bytes hr.le hr.max (Nat.zero_le _) (v := v) (k := k) (by simpa using hd)
      simpa using this
  obtain ⟨k, hkn, he, c, M⟩ := hk
  obtain ⟨A2, hsl, hr2, hb2⟩ := slice_off hr hkn
  have HF : Hid (NumPost2 w g B bs (.returned (.int .u64 ((numT bs).1 : Int))) (w.setCell ⟨g, 0, none⟩ (.slice A2 (n - k) (cap - k)))) := Lib.hid (by
    refine ⟨rfl, ⟨⟨A2, n - k, cap - k, World.cell?_setCell_same' _ _ _ (by rw [hc]; rfl), ?_, fun ad e => ?_⟩, hlo, by rw [World.frozen?_setCell]; exact hf⟩, ?_, fun ad => World.frozen?_setCell _ _ _ _⟩
    · rw [he]
      refine hr2.set (fun ad e => ?_) _
      obtain ⟨a0, e0, e1⟩ := hb2 ad e
      rw [e1]
      have := hne a0 e0
      exact Nat.ne_of_lt (Nat.lt_of_lt_of_le this hlo)
    · obtain ⟨a0, e0, e1⟩ := hb2 ad e
      rw [e1]
      exact hne a0 e0
    · exact ⟨rfl, rfl, rfl, by simp [World.setCell], fun j _ hj => by
        have hne : j ≠ g := fun e => hj (by rw [e])
        rw [Below.heap_setCell _ _ _ _ (fun e => hne e)]⟩)
  have MM := Lib.hid M
  clear h hr hr2 M he hb2 hne
  generalize (numT bs).1 = V at *
  go_enter Tryd.func65, Tryd.ntmps65
  go_wp2_with fail
  refine MM.out.mono ?_
  rintro en w2 ⟨rfl, rfl⟩
  clear MM
  go_wp2
  go_ret
  exact HF.out

theorem slice_hi_u {A : Option Addr} {n cap k : Nat} (h : k ≤ cap) (w : World) : (Instr.slice 26 (.slice A n cap) none (some (.int .u64 (k : Int))) none).run Tryd.prog w = .ok (.slice A k cap) w := by
  rw [run_slice_h w 26 A n cap Tryd.underlying26 .u64 (k : Int) (by omega) (by omega), size29]
  simp only [Result.andThen, sliced]
  congr 2
  · cases A with
    | none => simp
    | some a =>
      split
      · rfl
      · simp [addr_zero]
theorem strB_u {bs : List Nat} : strB bs = ⟨(bytesU bs).toArray⟩ := by
  unfold strB strOfNums bytesU
  rw [List.map_map]
  congr 2

def TextPost (w : World) (g : Nat) (bs : List Nat) (en : Ending) (w' : World) : Prop :=
  en = .returned (str (textT bs)) ∧ w.grownBy w' (some g) ∧ ∀ ad, w'.frozen? ad = w.frozen? ad

set_option maxHeartbeats 2000000 in
theorem text_any {g B : Nat} {bs : List Nat} {w : World} (h : RdAt w g B bs) (hl : bs.length ≤ 140737488355328) : Calls Tryd.prog 66 #[.pointer (some ⟨g, 0, none⟩)] w (TextPost w g bs) := by
  have hb : ∀ c ∈ bs, c < 256 := by obtain ⟨A, n, cap, hc, hr, hne⟩ := h.c; exact hr.bytes.1
  have M := Lib.hid (number_any h)
  have hV := numT_lt hb
  have hlen : (numT bs).2.length ≤ bs.length := by
    cases hd : dec 0 0 bs with
    | none => rw [numT_none hd]; exact Nat.le_refl _
    | some x => rw [numT_some hd]; simp
  have HT : Hid (textT bs = if (numT bs).1 > (numT bs).2.length then [] else bytesU ((numT bs).2.take (numT bs).1)) := Lib.hid rfl
  unfold NumPost2 at M
  generalize (numT bs).1 = V at *
  generalize (numT bs).2 = r at *
  obtain ⟨T, hT⟩ : ∃ T, T = textT bs := ⟨_, rfl⟩
  have HTT := Lib.hid hT
  rw [← hT] at HT
  have hgoal : TextPost w g bs = fun en w' => en = .returned (str T) ∧ w.grownBy w' (some g) ∧ ∀ ad, w'.frozen? ad = w.frozen? ad := by rw [hT]; rfl
  rw [hgoal]
  clear h hb hT hgoal
  unfold str
  go_enter Tryd.func66, Tryd.ntmps66
  go_wp2_with fail
  refine M.out.mono ?_
  rintro en w2 ⟨rfl, hR, hg, hz⟩
  obtain ⟨A, n, cap, hc, hr, hne⟩ := hR.c
  have hrn := hr.len
  have HF : Hid (w.grownBy w2 (some g) ∧ ∀ ad, w2.frozen? ad = w.frozen? ad) := Lib.hid ⟨hg, hz⟩
  have hwn := wrap64u (k := n) (by omega)
  by_cases hgt : V > n
  · have h1 : (V : Int) > (n : Int) := by omega
    have HX : Hid (T = []) := Lib.hid (by rw [HT.out, if_pos (by omega)])
    clear M hg hz hr hne hR HT
    go_wp2
    go_ret
    exact ⟨by rw [HX.out]; rfl, HF.out⟩
  · have h1 : ¬ (V : Int) > (n : Int) := by omega
    have hs := fun w => slice_hi_u (A := A) (n := n) (cap := cap) (k := V) (Nat.le_trans (by omega) hr.le) w
    have hcv := conv_bytes (hr.take (k := V) (by omega)).bytes V cap (hr.take (k := V) (by omega)).len
    rw [strB_u] at hcv
    have HX : Hid (T = bytesU (r.take V)) := Lib.hid (by rw [HT.out, if_neg (by omega)])
    rw [← HX.out] at hcv
    clear M hg hz hr hne hR HT
    go_wp2
    go_ret
    exact ⟨rfl, HF.out⟩
end Go.Proofs.YtdpoahjgdndnhaaDoor
