/-
  disk's Used and Names: what each returns; nothing that was there is written.
-/
import Derived.Test.YtofjealjecfkiaaFDisk
set_option maxRecDepth 100000
namespace Go.Proofs.Ytofjealjecfkiaa
open Go.RowKit
attribute [local go_sem ↓] Go.wp_at_zero Go.wp_at_succ
set_option linter.unusedVariables false
variable {w : World} {base p room rc : Nat} {R : Option Addr} {fs : List Fl}

theorem Try.info9 : (Try.prog.info? 9).map (fun i => (i.zero, i.size, i.bytes)) = some (some (.string ⟨#[]⟩), 1, 16) := by kernel_rfl
theorem Try.info49 : (Try.prog.info? 49).map (fun i => (i.zero, i.size, i.bytes)) = some (some (.agg #[.string ⟨#[]⟩, .slice none 0 0, .int .i64 0]), 3, 48) := by kernel_rfl

def usedOf (fs : List Fl) : Nat := (fs.map fun f => f.b.length).sum
theorem usedOf_cons (f : Fl) (r : List Fl) : usedOf (f :: r) = f.b.length + usedOf r := by simp [usedOf]
theorem usedOf_take {fs : List Fl} {k : Nat} {f : Fl} (h : fs[k]? = some f) : usedOf (fs.take (k + 1)) = usedOf (fs.take k) + f.b.length := by
  unfold usedOf
  rw [List.take_add_one, h]
  simp
theorem usedOf_le (fs : List Fl) (k : Nat) : usedOf (fs.take k) ≤ usedOf fs := by
  have : usedOf fs = usedOf (fs.take k) + usedOf (fs.drop k) := by
    unfold usedOf
    rw [← List.sum_append, ← List.map_append, List.take_append_drop]
  omega

/-- What the loops over the files read. -/
theorem files_at (h : DiskAt w base p room R rc fs) : 0 < fs.length → ∃ g, R = some ⟨g, 0, none⟩ ∧ ∀ w', Below w.heap.size w w' → ∀ k f, fs[k]? = some f → w'.cell? ⟨g, k * 3, none⟩ = some (str f.nm) ∧ w'.cell? ⟨g, k * 3 + 1, none⟩ = some (.slice f.A f.b.length f.cap) ∧ w'.cell? ⟨g, k * 3 + 2, none⟩ = some (.int .i64 (f.sure : Int)) := by
  intro h0
  obtain ⟨g, e, hg, hlt, _, _, _, hc⟩ := h.at_ h0
  refine ⟨g, e, fun w' hb k f hf => ?_⟩
  obtain ⟨c0, c1, c2⟩ := hc k f hf
  rw [hb.cell (World.block_lt_of_cell? w _ c0), hb.cell (World.block_lt_of_cell? w _ c1), hb.cell (World.block_lt_of_cell? w _ c2)]
  exact ⟨c0, c1, c2⟩

set_option maxHeartbeats 1000000 in
theorem used_any (h : DiskAt w base p room R rc fs) :
    Calls Try.prog 14 #[.pointer (some ⟨p, 0, none⟩)] w fun e w' => e = .returned (.int .i64 (usedOf fs : Int)) ∧ Below w.heap.size w w' := by
  have c1 := h.cell1
  have hle := h.le
  have hfew := h.ok.few
  have hroom := h.ok.big
  have hused := h.ok.used
  change usedOf fs ≤ room at hused
  unfold maxLen at hle
  have HR := Lib.hid (files_at h)
  obtain ⟨n, hn⟩ : ∃ n, n = fs.length := ⟨_, rfl⟩
  rw [← hn] at c1 hle hfew
  have HN := Lib.hid hn
  obtain ⟨hle1, hle2⟩ := hle
  obtain ⟨U, hU⟩ : ∃ U, U = usedOf fs := ⟨_, rfl⟩
  have HU := Lib.hid hU
  rw [← hU] at hused
  clear hn h hU
  go_enter Try.func14, Try.ntmps14
  go_wp2
  go_loopw [3, 13] (fun su si wr => ∃ (k u : Nat), k ≤ n ∧ su = .int .i64 (u : Int) ∧ si = .int .i64 (k : Int) ∧ Hid (u = usedOf (fs.take k)) ∧ Hid (Below w.heap.size w wr)) (fun _ si _ => n - (intOf si).toNat)
  case atStart => exact ⟨0, 0, by omega, rfl, rfl, Lib.hid rfl, Lib.hid (Below.refl _ _)⟩
  case round =>
    obtain ⟨k, u, hk, rfl, rfl, HK, HB⟩ := hrel
    by_cases hlt : k < n
    · obtain ⟨g, hRg, hc⟩ := HR.out (by have := HN.out; omega)
      have hkl : k < fs.length := by have := HN.out; omega
      obtain ⟨f, hf⟩ : ∃ f, fs[k]? = some f := ⟨_, List.getElem?_eq_getElem hkl⟩
      obtain ⟨k0, k1, k2⟩ := hc wr HB.out k f hf
      have hu2 := usedOf_take hf
      have hu3 := usedOf_le fs (k + 1)
      have HK2 : Hid (u + f.b.length = usedOf (fs.take (k + 1))) := Lib.hid (by rw [hu2, HK.out])
      have hb3 : u + f.b.length ≤ 1048576 := by have := HU.out; have := HK2.out; omega
      have hk1 : k + 1 ≤ n := hlt
      subst hRg
      generalize f.b.length = m at *
      generalize f.nm = nm at *
      generalize f.A = A at *
      generalize f.cap = c at *
      generalize f.sure = s at *
      unfold str at k0
      have w1 : IntKind.i64.wrap ((u : Int) + (m : Int)) = ((u + m : Nat) : Int) := by rw [IntKind.wrap_i64]; omega
      have HB9 : Hid (∀ o, Below w.heap.size w (wr.alloc o)) := Lib.hid (fun o => HB.out.alloc HB.out.size o)
      clear HK hc hf hu2 hu3
      go_wp2
      go_roundw
      case rel => exact ⟨k + 1, u + m, by omega, rfl, by go_num, HK2, Lib.hid (HB9.out _)⟩
      case measure => simp [intOf]; omega
    · have HK2 : Hid (u = U) := Lib.hid (by rw [HK.out, HU.out, List.take_of_length_le (by rw [← HN.out]; omega)])
      go_wp2
      (try rw [Exit.noGoto_ret])
      go_ret
      exact ⟨by rw [← HU.out, ← HK2.out]; rfl, HB.out⟩

theorem used_nil (w : World) : Calls Try.prog 14 #[.pointer none] w fun e w' => e = .returned (.int .i64 0) ∧ w = w' := by
  go_enter Try.func14, Try.ntmps14
  go_wp2
  go_ret
  exact ⟨rfl, rfl⟩
theorem names_nil (w : World) : Calls Try.prog 17 #[.pointer none] w fun e w' => e = .returned (.slice none 0 0) ∧ w = w' := by
  go_enter Try.func17, Try.ntmps17
  go_wp2
  go_ret
  exact ⟨rfl, rfl⟩

def namesV (fs : List Fl) : List Value := fs.map fun f => str f.nm
theorem namesV_take {fs : List Fl} {k : Nat} {f : Fl} (h : fs[k]? = some f) : namesV (fs.take (k + 1)) = namesV (fs.take k) ++ [str f.nm] := by
  unfold namesV
  rw [List.take_add_one, h]
  simp

set_option maxHeartbeats 1000000 in
theorem names_any (h : DiskAt w base p room R rc fs) :
    Calls Try.prog 17 #[.pointer (some ⟨p, 0, none⟩)] w fun e w' => ∃ v, e = .returned v ∧ w'.ownsRow w.heap.size 9 1 v fs.length (namesV fs) ∧ Below w.heap.size w w' := by
  obtain ⟨i0, hi0, hz0, hz1, hz2⟩ := info_parts Try.info9
  have c1 := h.cell1
  have hle := h.le
  have hfew := h.ok.few
  unfold maxLen at hle
  have HR := Lib.hid (files_at h)
  obtain ⟨n, hn⟩ : ∃ n, n = fs.length := ⟨_, rfl⟩
  rw [← hn] at c1 hle hfew ⊢
  have HN := Lib.hid hn
  obtain ⟨hle1, hle2⟩ := hle
  clear hn h
  go_enter Try.func17, Try.ntmps17
  go_wp2
  go_loopw [3, 13] (fun sv si wr => ∃ (k : Nat) (v : Value), k ≤ n ∧ v = sv ∧ si = .int .i64 (k : Int) ∧ Hid (wr.ownsRow w.heap.size 9 1 v k (namesV (fs.take k))) ∧ Hid (Below w.heap.size w wr)) (fun _ si _ => n - (intOf si).toNat)
  case atStart => exact ⟨0, _, by omega, rfl, rfl, Lib.hid (World.ownsRow_nil _ _ _ _), Lib.hid (Below.refl _ _)⟩
  case round =>
    obtain ⟨k, v, hk, rfl, rfl, HO, HB⟩ := hrel
    by_cases hlt : k < n
    · obtain ⟨g, hRg, hc⟩ := HR.out (by have := HN.out; omega)
      have hkl : k < fs.length := by have := HN.out; omega
      obtain ⟨f, hf⟩ : ∃ f, fs[k]? = some f := ⟨_, List.getElem?_eq_getElem hkl⟩
      obtain ⟨k0, k1, k2⟩ := hc wr HB.out k f hf
      have HT := Lib.hid (namesV_take hf)
      have hk1 : k + 1 ≤ n := hlt
      subst hRg
      obtain ⟨l, hl⟩ : ∃ l, l = namesV (fs.take k) := ⟨_, rfl⟩
      rw [← hl] at HO HT
      generalize f.b.length = m at *
      generalize f.nm = nm at *
      generalize f.A = A at *
      generalize f.cap = c at *
      generalize f.sure = s at *
      unfold str at k0 HT
      generalize hx : (ByteArray.mk nm.toArray) = x at *
      obtain ⟨w9, hw9⟩ : ∃ w9, w9 = (wr.alloc (.cells #[.string x, .slice A m c, .int .i64 (s : Int)] 49)) := ⟨_, rfl⟩
      have HO9 : Hid ((w9.alloc (.cells #[.string x] 9)).ownsRow w.heap.size 9 1 v k l) := Lib.hid (by rw [hw9]; exact (HO.out.alloc _).alloc _)
      have HB9 : Hid (Below w.heap.size w (w9.alloc (.cells #[.string x] 9))) := Lib.hid (by rw [hw9]; exact past_alloc (past_alloc HB.out _) _)
      have HS9 : Hid (∀ j u, [Value.string x][j]? = some u → (w9.alloc (.cells #[.string x] 9)).cell? ((⟨wr.heap.size + 1, 0, none⟩ : Addr).add j) = some u) := Lib.hid (fun j u hj => by
        match j with
        | 0 =>
          simp at hj
          subst hj
          rw [addr0]
          have e9 : wr.heap.size + 1 = w9.heap.size := by rw [hw9]; simp
          rw [e9]
          simp
        | j + 1 => simp at hj)
      have W9 := Lib.hid hw9
      clear hc hf hw9 HO HB hl hx
      go_wp2_with (at_builtin; rw [← W9.out]; refine wpList_append_own _ rfl _ _ 39 rfl w.heap.size 9 i0 (.string ⟨#[]⟩) 1 16 Try.underlying39 hi0 hz0 hz1 hz2 rfl (by decide) v k l rfl HO9.out ⟨wr.heap.size + 1, 0, none⟩ 1 1 [.string x] rfl rfl ?c1 ?c2 ?c3 ?c4 ?c5 ?_)
      case c1 => exact HS9.out
      case c2 => intro u hu; simp at hu; subst hu; rfl
      case c3 => unfold maxLen; omega
      case c4 => omega
      case c5 => exact HB9.out.size
      intro v' w' hown hgrow _
      have HO2 : Hid (w'.ownsRow w.heap.size 9 1 v' (k + 1) (namesV (fs.take (k + 1)))) := Lib.hid (by rw [HT.out]; exact hown)
      have HB2 : Hid (Below w.heap.size w w') := Lib.hid (HB9.out.grown hgrow HB9.out.size (fun q hq => (HO9.out.lt q hq).1))
      clear hown hgrow
      go_wp2
      go_roundw
      case rel => exact ⟨k + 1, v', by omega, rfl, by go_num, HO2, HB2⟩
      case measure => simp [intOf]; omega
    · have HK2 : Hid (wr.ownsRow w.heap.size 9 1 v n (namesV fs)) := Lib.hid (by
        have e : k = n := by omega
        subst e
        have := HO.out
        rw [List.take_of_length_le (by rw [← HN.out]; omega)] at this
        exact this)
      go_wp2
      (try rw [Exit.noGoto_ret])
      go_ret
      exact ⟨_, rfl, HK2.out, HB.out⟩
end Go.Proofs.Ytofjealjecfkiaa
