/-
  disk's Append to a file that is there: the disk that it leaves.
-/
import Derived.Test.YtofjealjecfkiaaFAppB
set_option maxRecDepth 100000
namespace Go.Proofs.Ytofjealjecfkiaa
open Go.RowKit
attribute [local go_sem ↓] Go.wp_at_zero Go.wp_at_succ
set_option linter.unusedVariables false
variable {w : World} {base p room rc : Nat} {R : Option Addr} {fs : List Fl}

set_option maxHeartbeats 2000000 in
theorem append_there (s : List UInt8) {B : Option Addr} {m c k : Nat} {bs : List Nat} {f : Fl} (h : DiskAt w base p room R rc fs) (hc : lookC fs s = (k, 0)) (hf : fs[k]? = some f) (hb : BRow w B m c bs) (hu : usedOf fs + m ≤ room) (hbase : base ≤ w.heap.size) :
    Calls Try.prog 9 #[.pointer (some ⟨p, 0, none⟩), str s, .slice B m c] w fun e w' => e = .returned (.int .i64 0) ∧ ∃ A' c', Moved w w' base p room R fs R rc (fs.set k (f.more A' c' bs)) := by
  have q := look_any s h
  have hlt := (List.getElem?_eq_some_iff.1 hf).1
  have hmem : f ∈ fs := List.mem_of_getElem? hf
  obtain ⟨g, rfl, _, _, hle1, hle2, _, _⟩ := h.at_ (by omega)
  have D0 : ∀ u : SubB w, u.w.cell? ⟨p, 0, none⟩ = some (.int .i64 (room : Int)) := fun u => (h.below u.le).cell0
  have MU : Hid (∀ u : SubB w, Calls Try.prog 14 #[.pointer (some ⟨p, 0, none⟩)] u.w fun e w'' => e = .returned (.int .i64 (usedOf fs : Int)) ∧ ∃ u' : SubB w, w'' = u'.w) := Lib.hid (fun u => calm_call (used_any (h.below u.le)))
  have hbig := h.ok.big
  have hused := h.ok.used
  have hfew := h.ok.few
  have hfl := file_len h hmem
  change usedOf fs ≤ room at hused
  have HX : Hid (∀ u : SubB w, ∃ A' c' w', (∀ ty, (Builtin.append_ #[22, 22] ty #[.slice f.A f.b.length f.cap, .slice B m c]).run Try.prog u.w.drew = .ok (.slice A' (f.b.length + m) c') w') ∧ w'.cell? ⟨p, 1, none⟩ = some (.slice (some ⟨g, 0, none⟩) fs.length rc) ∧ w'.cell? ⟨g, k * 3 + 1, none⟩ = some (.slice f.A f.b.length f.cap) ∧ w'.frozen? ⟨g, k * 3 + 1, none⟩ = false ∧
      Moved w (w'.setCell ⟨g, k * 3 + 1, none⟩ (.slice A' (f.b.length + m) c')) base p room (some ⟨g, 0, none⟩) fs (some ⟨g, 0, none⟩) rc (fs.set k (f.more A' c' bs))) := Lib.hid (fun u => by
    have hd := (h.below u.le).drew
    have hbd : BRow u.w.drew B m c bs := hb.below u.le.drew
    obtain ⟨v', w', q1, q2, q3, q4⟩ := run_append_b u.w.drew base f.row f.b.length m f.b bs (hd.own f hmem) B c hbd (by omega) (Nat.le_trans hbase u.le.size)
    obtain ⟨A', c', rfl, hm⟩ := appended hd hf hb.bytes.1 hb.len hu q2 q3 q4
    have hk1 : Kept u.w.drew w' (fun q => f.blk = some q) := Kept.of_grown q3 (fun q e => by rw [← Fl.row_own]; exact e)
    have b1 : w'.heap[p]? = u.w.drew.heap[p]? := hk1.block p (hd.lt (.inl rfl)).2 (fun e => (hd.ne_f hmem e).1 rfl)
    have b2 : w'.heap[g]? = u.w.drew.heap[g]? := hk1.block g (hd.lt (.inr (.inl rfl))).2 (fun e => (hd.ne_f hmem e).2 g rfl rfl)
    obtain ⟨g2, eg, _, _, _, _, _, hcell⟩ := hd.at_ (by omega)
    injection eg with eg
    injection eg with eg
    subst eg
    refine ⟨A', c', w', q1, (World.cell?_of_block (a := ⟨p, 1, none⟩) b1).trans hd.cell1, (World.cell?_of_block (a := ⟨g, k * 3 + 1, none⟩) b2).trans (hcell k f hf).2.1, (World.frozen?_of_block (a := ⟨g, k * 3 + 1, none⟩) b2).trans (hd.row.frozenAt _), ?_⟩
    exact (Moved.same h u.le.drew).trans hm)
  have D1 : ∀ u : SubB w, u.w.cell? ⟨p, 1, none⟩ = some (.slice (some ⟨g, 0, none⟩) fs.length rc) := fun u => (h.below u.le).cell1
  have D2 : ∀ u : SubB w, u.w.cell? ⟨g, k * 3 + 1, none⟩ = some (.slice f.A f.b.length f.cap) := fun u => by
    obtain ⟨g2, eg, _, _, _, _, _, hcell⟩ := (h.below u.le).at_ (by omega)
    injection eg with eg
    injection eg with eg
    subst eg
    exact (hcell k f hf).2.1
  have hroom : usedOf fs + m ≤ room := hu
  rw [hc] at q
  have M := Lib.hid q
  unfold maxLen at hle2
  clear h hc q hf hmem hb hbase hu hused
  generalize usedOf fs = U at *
  generalize fs.length = n at *
  generalize f.b.length = L at *
  generalize f.A = A at *
  generalize f.cap = cap at *
  have hw1 : IntKind.i64.wrap ((room : Int) - (U : Int)) = (room : Int) - (U : Int) := by rw [IntKind.wrap_i64]; omega
  have hgt : ¬ (room : Int) - (U : Int) < (m : Int) := by omega
  have hk0 : (k : Int) < (n : Int) := by omega
  go_enter Try.func9, Try.ntmps9
  go_wp2_with fail
  refine M.out.mono ?_
  rintro e w' ⟨rfl, rfl⟩
  go_upto_region 5 with fail
  refine wp_region_calm (by kernel_rfl) (by kernel_rfl) ?_
  repeat (go_big_quiet_step ((go_at_call 14; exact MU.out _)))
  refine wpQuiet_nil ?_
  rintro _ ⟨u, rfl⟩
  obtain ⟨A', c', w', q1, x1, x2, x3, hm⟩ := HX.out u
  have HM := Lib.hid hm
  have e1 := D1 u
  have e2 := D2 u
  have HQ := Lib.hid q1
  clear D0 D1 D2 HX MU M hm q1
  generalize u.w = ws at *
  go_upto_region 9 with fail
  go_region_law (refine step_append_run rfl (.tmp 72) (.tmp 73) 22 22 rfl (.slice A L cap) (.slice B m c) (by simp [Act.eval]) (by simp [Act.eval]) HQ.out ?_)
  all_goals
    go_wp2
    go_ret
    exact ⟨rfl, A', c', HM.out⟩
end Go.Proofs.Ytofjealjecfkiaa
