/-
  What walks over entries want: an empty row, a literal row, bounds, what is carried along.
-/
import Derived.Test.YtdpoahjgdndnhaaDoorEBackM
import Derived.Test.YtdpoahjgdndnhaaDoorERowS
set_option maxRecDepth 100000
namespace Go.Proofs.YtdpoahjgdndnhaaDoor
open Go.RowKit
attribute [local go_sem ↓] Go.wp_at_zero Go.wp_at_succ
set_option linter.unusedVariables false

theorem own_empty (w : World) : (w.alloc (.cells #[] 5)).ownsRow w.heap.size 5 1 (.slice (some ⟨w.heap.size, 0, none⟩) 0 0) 0 (bytesV []) :=
  World.ownsRow_lit (size := 1) (e := 5) w #[] 0 (Nat.le_refl _) (Nat.zero_le _) rfl
theorem brow_of_own0 {w : World} {base g n cap : Nat} {d : List Nat} (h : w.ownsRow base 5 1 (.slice (some ⟨g, 0, none⟩) n cap) n (bytesV d)) (hb : ∀ c ∈ d, c < 256) : BRow w (some ⟨g, 0, none⟩) n cap d := by
  obtain ⟨A, cap', e, hr, _⟩ := brow_of_own h hb
  injection e with e1 e2 e3
  subst e1 e3
  exact hr
theorem brow_lit (w : World) (c : Nat) (hc : c < 256) : BRow (w.alloc (.cells #[.int .u8 (c : Int)] 5)) (some ⟨w.heap.size, 0, none⟩) 1 1 [c] :=
  brow_of_own0 (World.ownsRow_lit (base := w.heap.size) (size := 1) (e := 5) w #[.int .u8 (c : Int)] 1 (Nat.le_refl _) (by unfold maxLen; omega) rfl) (fun x hx => by
    obtain rfl : x = c := by simpa using hx
    exact hc)
theorem row_one (e : Ent) (he : e.ok) (u : World) : EntRow (u.alloc (.cells #[.int .i64 e.kd, .int .i64 e.vw, .int .i64 e.id, .int .i64 e.tr, .int .i64 e.fr, .int .i64 e.tl, .int .u32 e.sm, .string ⟨e.tx.toArray⟩] 25)) (some ⟨u.heap.size, 0, none⟩) 1 1 [e] := by
  refine ⟨rfl, Nat.le_refl _, by unfold maxLen; omega, fun h => (by cases h), fun d hd => ?_, fun _ => ⟨u.heap.size, 0, rfl, by simp, fun j hj => ?_⟩⟩
  · simp only [List.mem_cons, List.not_mem_nil, or_false] at hd
    subst hd
    exact he
  · match j, hj with
    | 0, _ => exact ⟨by simp, by simp, by simp, by simp, by simp, by simp, by simp, by simp [str]⟩
theorem bytes_short {e : Ent} (h : e.may) (ho : e.ok) : e.bytes.length ≤ 400 := by
  have hn : ∀ n ∈ e.nums, n < 18446744073709551616 := by
    obtain ⟨h1, h2, h3, h4, h5, h6, h7, h8⟩ := ho
    unfold In64 at h1 h2 h3 h4 h5 h6
    intro n hn
    unfold Ent.nums at hn
    split at hn
    · simp only [List.mem_cons, List.not_mem_nil, or_false] at hn
      rcases hn with rfl | rfl | rfl | rfl | rfl | rfl <;> omega
    · split at hn
      · simp only [List.mem_cons, List.not_mem_nil, or_false] at hn
        rcases hn with rfl | rfl <;> omega
      · split at hn
        · simp only [List.mem_cons, List.not_mem_nil, or_false] at hn
          rcases hn with rfl | rfl <;> omega
        · simp only [List.mem_cons, List.not_mem_nil, or_false] at hn
          subst hn
          omega
  have h1 := numsB_len e.nums hn
  have h2 : e.nums.length ≤ 6 := by unfold Ent.nums; split <;> (try split) <;> (try split) <;> simp
  have h3 : (textB (if e.kd = 4 then e.tx else [])).length ≤ 300 := by
    by_cases k4 : e.kd = 4
    · have hs := h.2.2
      unfold Ent.says at hs
      rw [if_neg (by omega), if_neg (by omega), if_neg (by omega), if_pos k4] at hs
      rw [if_pos k4]
      have := hs.1
      simpa [textB] using this
    · rw [if_neg k4]; simp [textB]
  unfold Ent.bytes
  rw [List.length_cons, List.length_append]
  omega
theorem getD_lt {b : List Nat} (hb : ∀ c ∈ b, c < 256) {k : Nat} (hk : k < b.length) : b.getD k 0 < 256 := hb _ (by
  rw [List.getD_eq_getElem?_getD, List.getElem?_eq_getElem hk]
  exact List.getElem_mem _)
theorem set_lt {b : List Nat} (hb : ∀ c ∈ b, c < 256) {k c : Nat} (hc : c < 256) : ∀ x ∈ b.set k c, x < 256 := fun x hx => by
  rcases List.mem_or_eq_of_mem_set hx with hx | rfl
  · exact hb x hx
  · exact hc

/-- What the walk carries. -/
structure BX (w u : World) (g : Nat) (e : Ent) : Prop where
  ev : EV u g e
  nam : Nam u
  pos : 0 < u.heap.size
  below : Below w.heap.size w u

end Go.Proofs.YtdpoahjgdndnhaaDoor
