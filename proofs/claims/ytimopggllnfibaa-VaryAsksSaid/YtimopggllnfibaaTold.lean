/-
  told: it returns true, and writes nothing that was there. With it: Get at every place, in the forms in which it is called.
-/
import Derived.Test.YtimopggllnfibaaGet
import Derived.Deep.QuietTactic
import Derived.BigQuiet
namespace Go.Proofs.Ytimopggllnfibaa
open Go.RowKit

theorem get_nat (A : Option Addr) (len cap : Nat) (bs : List Nat) (p : Nat) (w : World) (hl : bs.length = len) (hB : Bytes w A bs) (hc : len ≤ cap) (hm : cap ≤ maxLen) (hp : p ≤ len) :
    Calls Try.prog 11 #[.slice A len cap, .int .i64 (p : Int)] w fun e w' => e = getE p (dec 0 0 (bs.drop p)) ∧ w = w' := by
  by_cases h : p < len
  · obtain ⟨b, off, rfl, hcell⟩ := hB.at_ (by omega)
    exact get_in b off len cap bs p w hl hB.1 hc hm h (by rw [← hl]; exact hcell)
  · obtain rfl : p = len := by omega
    have e : dec 0 0 (bs.drop p) = none := by rw [List.drop_eq_nil_of_le (by omega)]; rfl
    rw [e]
    exact get_end A p cap w hc

theorem get_some {A : Option Addr} {len cap : Nat} {bs : List Nat} {p v k : Nat} {w : World} (hl : bs.length = len) (hB : Bytes w A bs) (hc : len ≤ cap) (hm : cap ≤ maxLen) (hp : p ≤ len)
    (hd : dec 0 0 (bs.drop p) = some (v, k)) :
    Calls Try.prog 11 #[.slice A len cap, .int .i64 (p : Int)] w fun e w' => e = .returned (.tuple #[.int .u64 (v : Int), .int .i64 ((p + k : Nat) : Int), .int .i64 0]) ∧ w = w' := by
  have := get_nat A len cap bs p w hl hB hc hm hp
  rw [hd] at this
  exact this

theorem get_none {A : Option Addr} {len cap : Nat} {bs : List Nat} {p : Nat} {w : World} (hl : bs.length = len) (hB : Bytes w A bs) (hc : len ≤ cap) (hm : cap ≤ maxLen) (hp : p ≤ len)
    (hd : dec 0 0 (bs.drop p) = none) :
    Calls Try.prog 11 #[.slice A len cap, .int .i64 (p : Int)] w fun e w' => e = .returned (.tuple #[.int .u64 0, .int .i64 (p : Int), .int .i64 2]) ∧ w = w' := by
  have := get_nat A len cap bs p w hl hB hc hm hp
  rw [hd] at this
  exact this

/-- What a row of the call's own that holds bytes gives a reader. -/
theorem Bytes.own {w : World} {base g n cap : Nat} {bs : List Nat} (h : w.ownsRow base 5 1 (.slice (some ⟨g, 0, none⟩) n cap) n (bytesV bs)) (hb : ∀ c ∈ bs, c < 256) :
    Bytes w (some ⟨g, 0, none⟩) bs ∧ bs.length = n ∧ n ≤ cap ∧ cap ≤ maxLen ∧ base ≤ g ∧ g < w.heap.size := by
  have hn : bs.length = n := by have := h.1; rw [bytesV_length] at this; omega
  refine ⟨⟨hb, fun hp => ⟨_, rfl, fun j hj => ?_⟩⟩, hn, ?_⟩
  · refine h.cells (g := g) rfl j _ ?_
    unfold bytesV
    simp [hj]
  · rcases h.2 with ⟨e, _⟩ | ⟨g', cap', cur, e, hbg, hh, h1, h2, _⟩
    · cases e
    · injection e with e1 e2 e3
      injection e1 with e1
      injection e1 with e1
      subst e1 e3
      refine ⟨h1, h2, hbg, ?_⟩
      rcases Nat.lt_or_ge g w.heap.size with hlt | hge
      · exact hlt
      · rw [Array.getElem?_eq_none hge] at hh; cases hh

theorem Bytes.keep {w w' : World} {A : Option Addr} {bs : List Nat} {B : Nat} (h : Bytes w A bs) (hb : Below B w w') (hA : ∀ ad, A = some ad → ad.block < B) : Bytes w' A bs := by
  refine ⟨h.1, fun hp => ?_⟩
  obtain ⟨ad, rfl, hc⟩ := h.2 hp
  refine ⟨ad, rfl, fun j hj => ?_⟩
  rw [← hc j hj]
  refine hb.cell ?_
  have := hA ad rfl
  unfold Addr.add
  split <;> exact this

theorem enc300 : enc 300 = [172, 2] := by rw [enc_big (by decide), enc_small (by decide)]

theorem put_300 (w : World) : Calls Try.prog 9 #[.int .u64 300] w fun e w' => ∃ g cap, e = .returned (.slice (some ⟨g, 0, none⟩) 2 cap) ∧ 2 ≤ cap ∧ cap ≤ 9223372036854775807 ∧ w.heap.size ≤ g ∧ g < w'.heap.size ∧
    w'.cell? ⟨g, 0, none⟩ = some (.int .u8 172) ∧ w'.cell? ⟨g, 1, none⟩ = some (.int .u8 2) ∧ Below w.heap.size w w' := by
  refine (put_any 300 w (by decide)).mono ?_
  rintro e w' ⟨g, cap, rfl, ho, hb⟩
  obtain ⟨h1, h2, h3, h4, h5, h6⟩ := Bytes.own ho (enc_byte _)
  rw [enc300] at h1 h3 ho ⊢
  obtain ⟨ad, e, hc⟩ := h1.2 (by decide)
  injection e with e
  subst e
  exact ⟨g, cap, rfl, h3, by unfold maxLen at h4; omega, h5, h6, hc 0 (by decide), hc 1 (by decide), hb⟩

theorem get_300 (g cap : Nat) (w : World) (h0 : w.cell? ⟨g, 0, none⟩ = some (.int .u8 172)) (h1 : w.cell? ⟨g, 1, none⟩ = some (.int .u8 2)) (hc : 2 ≤ cap) (hm : cap ≤ 9223372036854775807) :
    Calls Try.prog 11 #[.slice (some ⟨g, 0, none⟩) 2 cap, .int .i64 0] w fun e w' => e = .returned (.tuple #[.int .u64 300, .int .i64 2, .int .i64 0]) ∧ w = w' := by
  refine get_some (A := some ⟨g, 0, none⟩) (bs := [172, 2]) (p := 0) (v := 300) (k := 2) rfl ⟨by decide, fun _ => ⟨_, rfl, fun j hj => ?_⟩⟩ hc (by unfold maxLen; omega) (by decide) rfl
  match j, hj with
  | 0, _ => exact h0
  | 1, _ => exact h1
theorem get_80 (g : Nat) (w : World) (h0 : w.cell? ⟨g, 0, none⟩ = some (.int .u8 128)) :
    Calls Try.prog 11 #[.slice (some ⟨g, 0, none⟩) 1 1, .int .i64 0] w fun e w' => e = .returned (.tuple #[.int .u64 0, .int .i64 0, .int .i64 2]) ∧ w = w' := by
  refine get_none (A := some ⟨g, 0, none⟩) (bs := [128]) (p := 0) rfl ⟨by decide, fun _ => ⟨_, rfl, fun j hj => ?_⟩⟩ (by decide) (by decide) (by decide) rfl
  match j, hj with
  | 0, _ => exact h0
theorem get_800 (g : Nat) (w : World) (h0 : w.cell? ⟨g, 0, none⟩ = some (.int .u8 128)) (h1 : w.cell? ⟨g, 1, none⟩ = some (.int .u8 0)) :
    Calls Try.prog 11 #[.slice (some ⟨g, 0, none⟩) 2 2, .int .i64 0] w fun e w' => e = .returned (.tuple #[.int .u64 0, .int .i64 0, .int .i64 2]) ∧ w = w' := by
  refine get_none (A := some ⟨g, 0, none⟩) (bs := [128, 0]) (p := 0) rfl ⟨by decide, fun _ => ⟨_, rfl, fun j hj => ?_⟩⟩ (by decide) (by decide) (by decide) rfl
  match j, hj with
  | 0, _ => exact h0
  | 1, _ => exact h1

theorem zig_m1 (w : World) : Calls Try.prog 14 #[.int .i64 (-1)] w fun e w' => e = .returned (.int .u64 1) ∧ w = w' := zig_any (-1) w (by decide) (by decide)
theorem zig_least (w : World) : Calls Try.prog 14 #[.int .i64 (-9223372036854775808)] w fun e w' => e = .returned (.int .u64 18446744073709551615) ∧ w = w' := zig_any (-9223372036854775808) w (by decide) (by decide)
theorem zag_3 (w : World) : Calls Try.prog 16 #[.int .u64 3] w fun e w' => e = .returned (.int .i64 (-2)) ∧ w = w' := zag_any 3 w (by decide) (by decide)
theorem size_0 (w : World) : Calls Try.prog 18 #[.int .u64 0] w fun e w' => e = .returned (.int .i64 1) ∧ w = w' := by
  have := size_any 0 w (by decide) (by decide)
  rw [show enc (0 : Int).toNat = [0] from enc_small (by decide)] at this
  exact this

set_option maxRecDepth 100000 in
theorem told_any (w : World) : Calls Try.prog 10 #[] w fun e w' => e = .returned (.bool true) ∧ Below w.heap.size w w' := by
  go_enter Try.func10, Try.ntmps10
  go_wp2_with fail
  refine (put_300 _).mono ?_
  rintro e w1 ⟨g, cap, rfl, hc1, hc2, hg1, hg2, hx0, hx1, hb1⟩
  go_wp2_with fail
  refine (get_300 _ _ _ hx0 hx1 hc1 hc2).mono ?_
  rintro e w2 ⟨rfl, rfl⟩
  go_wp2_with fail
  refine (get_80 _ _ (by simp)).mono ?_
  rintro e w2 ⟨rfl, rfl⟩
  go_wp2_with fail
  refine (get_800 _ _ (by simp) (by simp)).mono ?_
  rintro e w2 ⟨rfl, rfl⟩
  go_wp2_with fail
  refine (get_far _ _ _ _ _ (by decide) (by decide)).mono ?_
  rintro e w2 ⟨rfl, rfl⟩
  have cx0 : ((w1.alloc (Obj.cells #[Value.int IntKind.u8 128] 5)).alloc (Obj.cells #[Value.int IntKind.u8 128, Value.int IntKind.u8 0] 5)).cell? ⟨g, 0, none⟩ = some (.int .u8 172) := by
    rw [World.cell?_alloc_lt _ _ _ (by simp; omega), World.cell?_alloc_lt _ _ _ (by simp; omega)]; exact hx0
  have cx1 : ((w1.alloc (Obj.cells #[Value.int IntKind.u8 128] 5)).alloc (Obj.cells #[Value.int IntKind.u8 128, Value.int IntKind.u8 0] 5)).cell? ⟨g, 1, none⟩ = some (.int .u8 2) := by
    rw [World.cell?_alloc_lt _ _ _ (by simp; omega), World.cell?_alloc_lt _ _ _ (by simp; omega)]; exact hx1
  clear hx0 hx1
  go_wp2_with fail
  refine (zig_m1 _).mono ?_
  rintro e w2 ⟨rfl, rfl⟩
  go_wp2_with fail
  refine (zag_3 _).mono ?_
  rintro e w2 ⟨rfl, rfl⟩
  go_wp2_with fail
  refine (size_0 _).mono ?_
  rintro e w2 ⟨rfl, rfl⟩
  go_wp2_with fail
  refine (zig_least _).mono ?_
  rintro e w2 ⟨rfl, rfl⟩
  go_wp2
  go_ret
  exact ⟨rfl, (hb1.alloc hb1.size _).alloc (by simp; have := hb1.size; omega) _⟩
end Go.Proofs.Ytimopggllnfibaa
