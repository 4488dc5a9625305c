/-
  disk's Append to a file that is not there, behind all others: the walk.
-/
import Derived.Test.YtofjealjecfkiaaFAppN
set_option maxRecDepth 100000
namespace Go.Proofs.Ytofjealjecfkiaa
open Go.RowKit
attribute [local go_sem ↓] Go.wp_at_zero Go.wp_at_succ
set_option linter.unusedVariables false
variable {w : World} {base p room rc : Nat} {R : Option Addr} {fs : List Fl}

set_option maxHeartbeats 4000000 in
theorem append_new (s : List UInt8) {B : Option Addr} {m c : Nat} {bs : List Nat} (h : DiskAt w base p room R rc fs) (hc : lookC fs s = (fs.length, 9)) (hfew : fs.length < 200) (hs : s.length ≤ 20) (hb : BRow w B m c bs) (hbk : ∀ v, Kept w v (foot p R fs) → BRow v B m c bs) (hu : usedOf fs + m ≤ room) (hbase : base ≤ w.heap.size) :
    Calls Try.prog 9 #[.pointer (some ⟨p, 0, none⟩), str s, .slice B m c] w fun e w' => e = .returned (.int .i64 0) ∧ ∃ R' rc' A' c', Moved w w' base p room R fs R' rc' (fs ++ [(Fl.fresh s).more A' c' bs]) := by
  have q := look_any s h
  rw [hc] at q
  have M := Lib.hid q
  have D0 : ∀ u : SubB w, u.w.cell? ⟨p, 0, none⟩ = some (.int .i64 (room : Int)) := fun u => (h.below u.le).cell0
  have D1 : ∀ u : SubB w, u.w.cell? ⟨p, 1, none⟩ = some (.slice R fs.length rc) := fun u => (h.below u.le).cell1
  have MU : Hid (∀ u : SubB w, Calls Try.prog 14 #[.pointer (some ⟨p, 0, none⟩)] u.w fun e w'' => e = .returned (.int .i64 (usedOf fs : Int)) ∧ ∃ u' : SubB w, w'' = u'.w) := Lib.hid (fun u => calm_call (used_any (h.below u.le)))
  have hbig := h.ok.big
  have hused := h.ok.used
  change usedOf fs ≤ room at hused
  have MC : Hid (∀ v, Calls Try.prog 20 #[str s] v fun e w' => e = .returned (str s) ∧ Below v.heap.size v w') := Lib.hid (fun v => sclone_any s v (by omega))
  have HC1 : Hid (∀ v, Below w.heap.size w v → v.cell? ⟨p, 1, none⟩ = some (.slice R fs.length rc)) := Lib.hid (fun v hv => (h.below hv).cell1)
  have MI : Hid (∀ v, Below w.heap.size w v → Calls Try.prog 19 #[.slice R fs.length rc, .int .i64 (fs.length : Int), .slice (some ⟨v.heap.size, 0, none⟩) 1 1] (v.alloc (.cells #[str s, .slice none 0 0, .int .i64 0] 49)) fun e w4 =>
      ∃ g' rc', e = .returned (.slice (some ⟨g', 0, none⟩) (fs.length + 1) rc') ∧ w4.cell? ⟨p, 1, none⟩ = some (.slice R fs.length rc) ∧ w4.frozen? ⟨p, 1, none⟩ = false ∧ Moved w (w4.setCell ⟨p, 1, none⟩ (.slice (some ⟨g', 0, none⟩) (fs.length + 1) rc')) base p room R fs (some ⟨g', 0, none⟩) rc' (fs ++ [Fl.fresh s])) := Lib.hid (fun v hv => by
    have hv2 : Below w.heap.size w (v.alloc (.cells #[str s, .slice none 0 0, .int .i64 0] 49)) := past_alloc hv _
    have hd := h.below hv2
    have hn : ∀ j u, [str s, Value.slice none 0 0, .int .i64 0][j]? = some u → (v.alloc (.cells #[str s, .slice none 0 0, .int .i64 0] 49)).cell? ⟨v.heap.size, j, none⟩ = some u := fun j u hj => by
      rw [cell_of_row _ _ j _ 49 (0, 0) (heap_alloc_new v _)]
      match j with
      | 0 => exact hj
      | 1 => exact hj
      | 2 => exact hj
      | j + 3 => simp at hj
    refine (insert_end hd.row (by omega) (Nat.le_trans hbase hv2.size) hn rfl (fun u hu => by simp at hu; rcases hu with rfl | rfl | rfl <;> rfl)).mono ?_
    rintro e w4 ⟨g', rc', rfl, q2, q3, q4⟩
    have hperm : (fs ++ [Fl.fresh s]).Perm (Fl.fresh s :: fs) := List.perm_append_comm
    have hpw : (fs ++ [Fl.fresh s]).Pairwise Fl.apart := by
      rw [List.pairwise_append]
      refine ⟨h.ap, by simp, fun a ha b hb q e e2 => ?_⟩
      simp at hb
      subst hb
      cases e2
    have e9 : filesV fs ++ [str s, .slice none 0 0, .int .i64 0] = filesV (fs ++ [Fl.fresh s]) := by rw [filesV_append]; rfl
    rw [e9] at q2
    obtain ⟨t1, t2, t3⟩ := inserted h hfew hs hv2 hperm hpw q2 q3 q4
    exact ⟨g', rc', rfl, t1, t2, t3⟩)
  have HX : Hid (∀ wx g' rc', Moved w wx base p room R fs (some ⟨g', 0, none⟩) rc' (fs ++ [Fl.fresh s]) → wx.cell? ⟨p, 1, none⟩ = some (.slice (some ⟨g', 0, none⟩) (fs.length + 1) rc') ∧ fs.length + 1 ≤ rc' ∧ rc' ≤ 9223372036854775807 ∧ wx.cell? ⟨g', fs.length * 3 + 1, none⟩ = some (.slice none 0 0) ∧
      ∃ A' c' w', (∀ ty, (Builtin.append_ #[22, 22] ty #[.slice none 0 0, .slice B m c]).run Try.prog wx.drew = .ok (.slice A' m c') w') ∧ w'.cell? ⟨p, 1, none⟩ = some (.slice (some ⟨g', 0, none⟩) (fs.length + 1) rc') ∧ w'.cell? ⟨g', fs.length * 3 + 1, none⟩ = some (.slice none 0 0) ∧ w'.frozen? ⟨g', fs.length * 3 + 1, none⟩ = false ∧
      Moved w (w'.setCell ⟨g', fs.length * 3 + 1, none⟩ (.slice A' m c')) base p room R fs (some ⟨g', 0, none⟩) rc' (fs ++ [(Fl.fresh s).more A' c' bs])) := Lib.hid (fun wx g' rc' hm => by
    have hl1 : (fs ++ [Fl.fresh s]).length = fs.length + 1 := by simp
    have hf1 : (fs ++ [Fl.fresh s])[fs.length]? = some (Fl.fresh s) := by simp
    have hbx : BRow wx B m c bs := hbk wx hm.kept
    have hle := hm.disk.le
    obtain ⟨g2, eg, _, _, _, _, _, hcell⟩ := hm.disk.at_ (by omega)
    injection eg with eg
    injection eg with eg
    subst eg
    have k1 := (hcell _ _ hf1).2.1
    have c1 := hm.disk.cell1
    obtain ⟨A', c', w', q1, q2, q3, q4, q5⟩ := append_step hm.disk hf1 hbx (L := 0) (L2 := m) rfl (by omega) (by
      have : usedOf (fs ++ [Fl.fresh s]) = usedOf fs := by simp [usedOf, Fl.fresh]
      omega) (Nat.le_trans hbase hm.kept.size)
    have e9 : (fs ++ [Fl.fresh s]).set fs.length ((Fl.fresh s).more A' c' bs) = fs ++ [(Fl.fresh s).more A' c' bs] := by simp
    rw [e9] at q5
    rw [hl1] at c1 hle q2
    unfold maxLen at hle
    exact ⟨c1, hle.1, hle.2, k1, A', c', w', q1, q2, q3, q4, hm.trans q5⟩)
  clear h hc q hb hbase hbk hused
  generalize usedOf fs = U at *
  generalize hn : fs.length = n at *
  have hw1 : IntKind.i64.wrap ((room : Int) - (U : Int)) = (room : Int) - (U : Int) := by rw [IntKind.wrap_i64]; omega
  have hgt : ¬ (room : Int) - (U : Int) < (m : Int) := by omega
  have hf2 : ((n : Int) == 200) = false := by rw [beq_eq_false_iff_ne]; omega
  clear hn
  unfold str at *
  generalize hS : ByteArray.mk s.toArray = S at *
  clear hS
  go_enter Try.func9, Try.ntmps9
  go_wp2_with fail
  refine M.out.mono ?_
  rintro e w' ⟨rfl, rfl⟩
  go_upto_region 5 with fail
  refine wp_region_calm (by kernel_rfl) (by kernel_rfl) ?_
  repeat (go_big_quiet_step ((go_at_call 14; exact MU.out _)))
  refine wpQuiet_nil ?_
  rintro _ ⟨u, rfl⟩
  have e1 := D1 u
  have hub := Lib.hid u.le
  clear D0 D1 MU M
  generalize u.w = ws at *
  have HB1 : Hid (∀ v, Below ws.heap.size ws v → Below w.heap.size w v) := Lib.hid (fun v hv => past hub.out hv)
  go_upto_region 8 with fail
  go_region_law (first
    | (go_simp; go_at_call 20; refine (MC.out _).mono ?_; rintro en W3 ⟨rfl, hb3⟩; have hb3' := HB1.out W3 (past (below_drewN _ 1) hb3); have c3 := HC1.out W3 hb3'; have c4 := HC1.out _ (past_alloc hb3' (.cells #[.string S, .slice none 0 0, .int .i64 0] 49)))
    | (go_simp; go_at_call 19; refine (MI.out _ hb3').mono ?_; rintro en W4 ⟨g', rc', rfl, t1, t2, t3⟩))
  all_goals
    obtain ⟨y1, y2, y3, y4, A', c', w', q1, x1, x2, x3, hm⟩ := HX.out _ _ _ t3
    have HM := Lib.hid hm
    have HQ := Lib.hid q1
    clear hm q1 t3 t1 t2 c3 c4 hb3 hb3' HX HC1 MC MI HB1 hub e1
    generalize W4.setCell ⟨p, 1, none⟩ (.slice (some ⟨g', 0, none⟩) (n + 1) rc') = wx at *
    have hk0 : (n : Int) < (n : Int) + 1 := by omega
    go_upto_region 9 with fail
    go_region_law (refine step_append_run rfl (.tmp 72) (.tmp 73) 22 22 rfl (.slice none 0 0) (.slice B m c) (by simp [Act.eval]) (by simp [Act.eval]) HQ.out ?_)
    all_goals
      go_wp2
      go_ret
      exact ⟨rfl, _, _, A', c', HM.out⟩
end Go.Proofs.Ytofjealjecfkiaa
