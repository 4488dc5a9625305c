/-
  Rows of files: cells stored, rows cut, append, slices.Delete of one file, slices.Insert of one file at the end.
-/
import Derived.Test.YtofjealjecfkiaaFNew
import Derived.Deep.RegionLaw
set_option maxRecDepth 100000
namespace Go.Proofs.Ytofjealjecfkiaa
open Go.RowKit
attribute [local go_sem ↓] Go.wp_at_zero Go.wp_at_succ
set_option linter.unusedVariables false

theorem set_list (xs : List Value) (v : Value) (r : List Value) (o : Nat) (h : o < xs.length) : (xs.set o v).take (o + 1) ++ r ++ (xs.set o v).drop (o + 1 + r.length) = xs.take o ++ (v :: r) ++ xs.drop (o + (r.length + 1)) := by
  rw [List.drop_set_of_lt (by omega), List.take_add_one, List.getElem?_set_self h, List.take_set_of_le (Nat.le_refl _)]
  simp only [Option.toList_some, List.append_assoc, List.cons_append, List.nil_append]
  rw [show o + 1 + r.length = o + (r.length + 1) by omega]
/-- Cells stored in a row of one's own. -/
theorem own_setCells {base : Nat} {e : TypeId} {size g n cap : Nat} : ∀ (vs : List Value) (o : Nat) (xs : List Value) (w : World), w.ownsRow base e size (.slice (some ⟨g, 0, none⟩) n cap) n xs → o + vs.length ≤ xs.length →
    (w.setCells g o vs).ownsRow base e size (.slice (some ⟨g, 0, none⟩) n cap) n (xs.take o ++ vs ++ xs.drop (o + vs.length))
  | [], o, xs, w, h, _ => by simpa [World.setCells] using h
  | v :: r, o, xs, w, h, hl => by
    simp only [List.length_cons] at hl ⊢
    have h1 := (h.stored o v).1
    have := own_setCells r (o + 1) (xs.set o v) _ h1 (by rw [List.length_set]; omega)
    rw [set_list xs v r o (by omega)] at this
    exact this
theorem kept_setCells {g : Nat} {S : Nat → Prop} (hS : S g) : ∀ (vs : List Value) (o : Nat) (w : World), Kept w (w.setCells g o vs) S
  | [], o, w => Kept.of_below (Below.refl _ _) _
  | v :: r, o, w => (kept_setCell w ⟨g, o, none⟩ v (S := S) hS).trans (kept_setCells hS r (o + 1) _) (fun j hj => .inl hj)
theorem size_setCells {g : Nat} : ∀ (vs : List Value) (o : Nat) (w : World), (w.setCells g o vs).heap.size = w.heap.size
  | [], o, w => rfl
  | v :: r, o, w => by
    rw [World.setCells, size_setCells r]
    simp [World.setCell]
/-- A row, cut. -/
theorem own_take {w : World} {base : Nat} {e : TypeId} {size g n cap m : Nat} {xs : List Value} (h : w.ownsRow base e size (.slice (some ⟨g, 0, none⟩) n cap) n xs) (hm : m ≤ n) : w.ownsRow base e size (.slice (some ⟨g, 0, none⟩) m cap) m (xs.take (m * size)) := by
  have hms : m * size ≤ n * size := Nat.mul_le_mul_right _ hm
  refine ⟨by rw [List.length_take, h.1]; omega, ?_⟩
  rcases h.2 with ⟨e, _⟩ | ⟨g', c, cur, e, h1, h2, h3, h4, h5, h6⟩
  · cases e
  · injection e with e1 e2 e3
    injection e1 with e1
    injection e1 with e1
    subst e1 e3
    refine .inr ⟨g, cap, cur, rfl, h1, h2, by omega, h4, h5, ?_⟩
    rw [← h6, List.take_take, Nat.min_eq_left hms]
theorem filesV_take : ∀ (fs : List Fl) (k : Nat), filesV (fs.take k) = (filesV fs).take (k * 3)
  | [], k => by simp [filesV]
  | f :: r, 0 => by simp [filesV]
  | f :: r, k + 1 => by
    rw [show (k + 1) * 3 = k * 3 + 1 + 1 + 1 by omega]
    simp only [List.take_succ_cons, filesV, filesV_take r k]
theorem filesV_drop : ∀ (fs : List Fl) (k : Nat), filesV (fs.drop k) = (filesV fs).drop (k * 3)
  | [], k => by simp [filesV]
  | f :: r, 0 => by simp [filesV]
  | f :: r, k + 1 => by
    rw [show (k + 1) * 3 = k * 3 + 1 + 1 + 1 by omega]
    simp only [List.drop_succ_cons, filesV, filesV_drop r k]

/-- append(v, x...), v the call's own row of files: what it gives, and where that lies. -/
theorem run_append_f (w : World) (base : Nat) (v : Value) (n m c : Nat) (xs news : List Value) (ad : Addr) (hown : w.ownsRow base 49 3 v n xs) (hl : news.length = m * 3) (hnews : ∀ j u, news[j]? = some u → w.cell? (ad.add j) = some u) (h1 : ∀ u ∈ news, u.oneCell' = true)
    (hlen : n + m ≤ 4000000) (hbase : base ≤ w.heap.size) :
    ∃ v' w', (∀ ty, (Builtin.append_ #[42, 42] ty #[v, .slice (some ad) m c]).run Try.prog w = .ok v' w') ∧ w'.ownsRow base 49 3 v' (n + m) (xs ++ news) ∧ w.grownBy w' v.ownBlock ∧ (v'.ownBlock = v.ownBlock ∨ v'.ownBlock = some w.heap.size) := by
  obtain ⟨i0', hi, hz0, hz1, hz2⟩ := info_parts Try.info49
  obtain ⟨v', w', q1, q2, q3, _, q5⟩ := run_append_own_at (P := Try.prog) w base 42 42 49 i0' (.agg #[.string ⟨#[]⟩, .slice none 0 0, .int .i64 0]) 3 48 Try.underlying42 hi hz0 hz1 hz2 rfl (by decide) v n xs hown ad m c news hl hnews h1 (by unfold maxLen; omega) (by omega) hbase
  exact ⟨v', w', fun _ => q1, q2, q3, q5⟩

theorem sizeF (w : World) : (Go.sizeOf (Try.prog.elem 42)).run Try.prog w = .ok 3 w := by kernel_rfl
theorem sliceF_hi {A : Option Addr} {n cap k : Nat} (h : k ≤ cap) (w : World) : (Instr.slice 42 (.slice A n cap) none (some (.int .i64 (k : Int))) none).run Try.prog w = .ok (.slice A k cap) w := by
  rw [run_slice_h w 42 A n cap Try.underlying42 .i64 (k : Int) (by omega) (by omega), sizeF]
  simp only [Result.andThen, sliced]
  congr 2
  · cases A with
    | none => simp
    | some a =>
      split
      · rfl
      · simp [addr_zero]
theorem sliceF_lo {A : Option Addr} {n cap k : Nat} (h : k ≤ n) (hc : n ≤ cap) (w : World) : (Instr.slice 42 (.slice A n cap) (some (.int .i64 (k : Int))) none none).run Try.prog w = .ok (.slice (if cap = k then A else A.map (·.add (k * 3))) (n - k) (cap - k)) w := by
  rw [run_slice_l w 42 A n cap Try.underlying42 .i64 (k : Int) (by omega) (by omega), sizeF]
  simp [Result.andThen, sliced]
theorem sliceF_lh {A : Option Addr} {n cap k m : Nat} (h : k ≤ m) (hm : m ≤ cap) (w : World) : (Instr.slice 42 (.slice A n cap) (some (.int .i64 (k : Int))) (some (.int .i64 (m : Int))) none).run Try.prog w = .ok (.slice (if cap = k then A else A.map (·.add (k * 3))) (m - k) (cap - k)) w := by
  rw [run_slice_lh w 42 A n cap Try.underlying42 .i64 .i64 (k : Int) (m : Int) (by omega) (by omega) (by omega), sizeF]
  simp [Result.andThen, sliced]
theorem zeroF (w : World) : (zeroValue 49).run Try.prog w = .ok (.agg #[.string ⟨#[]⟩, .slice none 0 0, .int .i64 0]) w := by kernel_rfl
def zeroCs : List Value := [.string ⟨#[]⟩, .slice none 0 0, .int .i64 0]
theorem run_clear_f (w : World) (b o c : Nat) (hc : ∀ j, j < 3 → (w.cell? ⟨b, o + j, none⟩).isSome = true) (hf : ∀ j, j < 3 → w.frozen? ⟨b, o + j, none⟩ = false) (ty : TypeId) :
    (Builtin.clear_ #[42] ty #[.slice (some ⟨b, o, none⟩) 1 c]).run Try.prog w = .ok (.tuple #[]) (w.setCells b o zeroCs) := by
  have hzc : (Builtin.zeroCells (Value.agg #[.string ⟨#[]⟩, .slice none 0 0, .int .i64 0]).cells 1).toList = zeroCs := by kernel_rfl
  have hst := run_storeCells_cells (P := Try.prog) b o zeroCs 0 w (by simpa [zeroCs] using hc) (by simpa [zeroCs] using hf) (by intro v hv; simp [zeroCs] at hv; rcases hv with rfl | rfl | rfl <;> rfl)
  simp only [Nat.add_zero] at hst
  simp [Builtin.clear_, run_underlying Try.underlying42, hzc, hst]

/-- slices.Insert of one file at the end. -/
theorem insert_end {w : World} {base n rc vb : Nat} {R : Option Addr} {xs cs : List Value} (hown : w.ownsRow base 49 3 (.slice R n rc) n xs) (hn : n ≤ 1000000) (hbase : base ≤ w.heap.size) (hv : ∀ j u, cs[j]? = some u → w.cell? ⟨vb, j, none⟩ = some u) (hl : cs.length = 3) (h1 : ∀ u ∈ cs, u.oneCell' = true) :
    Calls Try.prog 19 #[.slice R n rc, .int .i64 (n : Int), .slice (some ⟨vb, 0, none⟩) 1 1] w fun e w' => ∃ g' rc', e = .returned (.slice (some ⟨g', 0, none⟩) (n + 1) rc') ∧ w'.ownsRow base 49 3 (.slice (some ⟨g', 0, none⟩) (n + 1) rc') (n + 1) (xs ++ cs) ∧ w.grownBy w' (R.map (·.block)) ∧ (rowOf R g' ∨ g' = w.heap.size) := by
  obtain ⟨v', w', q1, q2, q3, q4⟩ := run_append_f w base (.slice R n rc) n 1 1 xs cs ⟨vb, 0, none⟩ hown (by omega) (fun j u hj => by rw [addr0]; exact hv j u hj) h1 (by omega) hbase
  obtain ⟨g', rc', rfl, _, _⟩ := q2.form (by omega)
  rw [row_ownBlock R] at q3 q4
  have HF : Hid (w'.ownsRow base 49 3 (.slice (some ⟨g', 0, none⟩) (n + 1) rc') (n + 1) (xs ++ cs) ∧ w.grownBy w' (R.map (·.block)) ∧ (rowOf R g' ∨ g' = w.heap.size)) := Lib.hid ⟨q2, q3, by
    rcases q4 with q4 | q4
    · exact .inl (Eq.symm q4)
    · injection q4 with q4
      exact .inr q4⟩
  have HQ := Lib.hid q1
  have hnc : n ≤ rc := by
    rcases hown.2 with ⟨e, e0⟩ | ⟨g, cap, cur, e, _, _, h1, _⟩
    · injection e with _ _ e; omega
    · injection e with _ _ e; omega
  have sl := fun w => sliceF_lo (A := R) (n := n) (cap := rc) (k := n) (Nat.le_refl _) hnc w
  obtain ⟨Z, hZ⟩ : ∃ Z, Z = Value.slice (if rc = n then R else R.map (·.add (n * 3))) (n - n) (rc - n) := ⟨_, rfl⟩
  rw [← hZ] at sl
  clear hown q1 q2 q3 q4 hv hZ hl h1 hbase
  go_enter Try.func19, Try.ntmps19
  go_wp2_with (at_builtin; refine Lib.wpList_append_run _ rfl _ _ _ _ rfl _ _ rfl rfl _ _ (HQ.out _) ?_)
  go_wp2
  go_ret
  exact ⟨g', rc', rfl, HF.out⟩

set_option maxHeartbeats 1000000 in
/-- slices.Delete of one file. -/
theorem delete_one {w : World} {base n rc g k : Nat} {xs : List Value} (hown : w.ownsRow base 49 3 (.slice (some ⟨g, 0, none⟩) n rc) n xs) (hn : n ≤ 1000000) (hk : k < n) (hone : ∀ u ∈ xs, u.oneCell' = true) :
    Calls Try.prog 22 #[.slice (some ⟨g, 0, none⟩) n rc, .int .i64 (k : Int), .int .i64 (k + 1 : Nat)] w fun e w' => e = .returned (.slice (some ⟨g, 0, none⟩) (n - 1) rc) ∧ w'.ownsRow base 49 3 (.slice (some ⟨g, 0, none⟩) (n - 1) rc) (n - 1) (xs.take (k * 3) ++ xs.drop ((k + 1) * 3)) ∧ Kept w w' (fun q => q = g) ∧ w'.heap.size = w.heap.size := by
  obtain ⟨i0', hi, hz0, hz1, hz2⟩ := info_parts Try.info49
  have hxl : xs.length = n * 3 := hown.1
  have hnc : n ≤ rc := by
    rcases hown.2 with ⟨e, e0⟩ | ⟨g, cap, cur, e, _, _, h1, _⟩
    · cases e
    · injection e with _ _ e; omega
  have hrm : rc ≤ maxLen := by
    rcases hown.2 with ⟨e, e0⟩ | ⟨g, cap, cur, e, _, _, _, h1, _⟩
    · cases e
    · injection e with _ _ e; omega
  obtain ⟨news, hnews⟩ : ∃ news, news = xs.drop ((k + 1) * 3) := ⟨_, rfl⟩
  have hnl : news.length = (n - (k + 1)) * 3 := by rw [hnews, List.length_drop, hxl]; omega
  have hcell : ∀ j u, xs[j]? = some u → w.cell? ⟨g, j, none⟩ = some u := fun j u hj => by have := hown.cells (g := g) rfl j u hj; rwa [addr0] at this
  obtain ⟨A, hA, hsrc⟩ : ∃ A : Addr, (if rc = k + 1 then (some ⟨g, 0, none⟩ : Option Addr) else (some (⟨g, 0, none⟩ : Addr)).map (·.add ((k + 1) * 3))) = some A ∧ ∀ j u, news[j]? = some u → w.drew.cell? (A.add j) = some u := by
    by_cases h : rc = k + 1
    · refine ⟨⟨g, 0, none⟩, by rw [if_pos h], fun j u hj => ?_⟩
      have h0 : news.length = 0 := by rw [hnl]; omega
      rw [List.length_eq_zero_iff.1 h0] at hj
      simp at hj
    · refine ⟨⟨g, (k + 1) * 3, none⟩, by rw [if_neg h, Option.map_some, addr0], fun j u hj => ?_⟩
      rw [hnews, List.getElem?_drop] at hj
      rw [addr_add]
      exact hcell _ u hj
  have sh := fun w => sliceF_hi (A := some ⟨g, 0, none⟩) (n := n) (cap := rc) (k := k) (by omega) w
  have sl := fun w => sliceF_lo (A := some ⟨g, 0, none⟩) (n := n) (cap := rc) (k := k + 1) (by omega) hnc w
  rw [hA, show ((k + 1 : Nat) : Int) = (k : Int) + 1 from rfl] at sl
  -- the world behind the append
  have hd : w.drew.ownsRow base 49 3 (.slice (some ⟨g, 0, none⟩) n rc) n xs := hown
  have hs1 : Hid (∀ u ∈ news, u.oneCell' = true) := Lib.hid (fun u hu => hone u (by rw [hnews] at hu; exact List.mem_of_mem_drop hu))
  have hs3 : Hid (∀ j, j < news.length → (w.drew.cell? ⟨g, 0 + k * 3 + j, none⟩).isSome = true ∧ w.drew.frozen? ⟨g, 0 + k * 3 + j, none⟩ = false) := Lib.hid (fun j hj => by
    rw [hnl] at hj
    refine ⟨?_, hown.frozenAt _⟩
    have : 0 + k * 3 + j < xs.length := by omega
    rw [show w.drew.cell? ⟨g, 0 + k * 3 + j, none⟩ = w.cell? ⟨g, 0 + k * 3 + j, none⟩ from rfl, hcell _ _ (List.getElem?_eq_getElem this)]
    rfl)
  obtain ⟨W1, hW1⟩ : ∃ W1, W1 = w.drew.setCells g (0 + k * 3) news := ⟨_, rfl⟩
  have o1 := own_setCells news (0 + k * 3) xs w.drew hd (by omega)
  rw [← hW1] at o1
  have c2 : ∀ j, j < 3 → (W1.cell? ⟨g, (n - 1) * 3 + j, none⟩).isSome = true := fun j hj => by
    rw [o1.cellAt _ (by omega)]
    have := o1.1
    rw [List.getElem?_eq_getElem (by omega)]
    rfl
  have f2 : ∀ j, j < 3 → W1.frozen? ⟨g, (n - 1) * 3 + j, none⟩ = false := fun j hj => o1.frozenAt _
  have hcl := run_clear_f W1 g ((n - 1) * 3) (rc - (n - 1)) c2 f2
  have o2 := own_setCells zeroCs ((n - 1) * 3) _ W1 o1 (by rw [o1.1]; show (n - 1) * 3 + 3 ≤ _; omega)
  have o3 := own_take (m := n - 1) o2 (by omega)
  have e3 : List.take ((n - 1) * 3) (List.take ((n - 1) * 3) (List.take (0 + k * 3) xs ++ news ++ List.drop (0 + k * 3 + news.length) xs) ++ zeroCs ++ List.drop ((n - 1) * 3 + zeroCs.length) (List.take (0 + k * 3) xs ++ news ++ List.drop (0 + k * 3 + news.length) xs)) = xs.take (k * 3) ++ news := by
    have hl1 : (List.take (0 + k * 3) xs ++ news).length = (n - 1) * 3 := by rw [List.length_append, List.length_take, hnl]; omega
    rw [List.append_assoc, List.take_append_of_le_length (by rw [List.length_take, List.length_append, hl1]; omega), List.take_take, Nat.min_self, List.take_append_of_le_length (by omega), List.take_of_length_le (by omega), Nat.zero_add]
  rw [e3] at o3
  have hkd : Kept w (W1.setCells g ((n - 1) * 3) zeroCs) (fun q => q = g) := by
    rw [hW1]
    have k1 : Kept w w.drew (fun q => q = g) := ⟨rfl, rfl, rfl, Nat.le_refl _, fun _ _ _ => rfl⟩
    have k2 : Kept w.drew (w.drew.setCells g (0 + k * 3) news) (fun q => q = g) := kept_setCells (g := g) (S := fun q => q = g) rfl news (0 + k * 3) w.drew
    have k3 : Kept (w.drew.setCells g (0 + k * 3) news) ((w.drew.setCells g (0 + k * 3) news).setCells g ((n - 1) * 3) zeroCs) (fun q => q = g) := kept_setCells (g := g) (S := fun q => q = g) rfl zeroCs ((n - 1) * 3) _
    exact (k1.trans k2 (fun j hj => .inl hj)).trans k3 (fun j hj => .inl hj)
  have hsz : (W1.setCells g ((n - 1) * 3) zeroCs).heap.size = w.heap.size := by rw [size_setCells, hW1, size_setCells, heap_drew]
  have HF : Hid ((W1.setCells g ((n - 1) * 3) zeroCs).ownsRow base 49 3 (.slice (some ⟨g, 0, none⟩) (n - 1) rc) (n - 1) (xs.take (k * 3) ++ xs.drop ((k + 1) * 3)) ∧ Kept w (W1.setCells g ((n - 1) * 3) zeroCs) (fun q => q = g) ∧ (W1.setCells g ((n - 1) * 3) zeroCs).heap.size = w.heap.size) := Lib.hid (And.intro (by rw [← hnews]; exact o3) (And.intro hkd hsz))
  have HS := Lib.hid hsrc
  have HNL := Lib.hid hnl
  have W1' := Lib.hid hW1
  have sc := fun w => sliceF_lh (A := some ⟨g, 0, none⟩) (n := n - 1) (cap := rc) (k := n - 1) (m := n) (by omega) hnc w
  rw [if_neg (by omega), Option.map_some, addr0, show n - (n - 1) = 1 by omega] at sc
  unfold maxLen at hrm
  have i1 : k + (n - (k + 1)) = n - 1 := by omega
  clear hsz hown hd o1 o2 o3 e3 hkd c2 f2 hW1 hsrc hnl hnews hcell hA hone hxl
  go_enter Try.func22, Try.ntmps22
  go_wp2_with fail
  go_region_law (refine step_append_room rfl (.tmp 22) (.tmp 25) 42 rfl 49 i0' 3 Try.underlying42 hi hz1 g 0 k rc (by simp [Act.eval, Act.put]) A (n - (k + 1)) (rc - (k + 1)) news (by simp [Act.eval, Act.put]) HNL.out HS.out hs1.out (by omega) hs3.out ?_; rw [← W1'.out])
  go_wp2
  go_ret
  exact ⟨rfl, HF.out⟩
end Go.Proofs.Ytofjealjecfkiaa
