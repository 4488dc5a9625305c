/-
  disk's Append to a file that is not there, behind all others: the disk that it leaves.
-/
import Derived.Test.YtofjealjecfkiaaFAppT
set_option maxRecDepth 100000
namespace Go.Proofs.Ytofjealjecfkiaa
open Go.RowKit
attribute [local go_sem ↓] Go.wp_at_zero Go.wp_at_succ
set_option linter.unusedVariables false
variable {w : World} {base p room rc : Nat} {R : Option Addr} {fs : List Fl}

/-- A file of that name, empty. -/
def Fl.fresh (s : List UInt8) : Fl := ⟨s, none, 0, [], 0⟩
theorem DOk.add {room : Nat} {fs : List Fl} (h : DOk room fs) (hn : fs.length < 200) {s : List UInt8} (hs : s.length ≤ 20) {l : List Fl} (hl : l.Perm (Fl.fresh s :: fs)) : DOk room l := by
  refine ⟨h.big, by rw [hl.length_eq, List.length_cons]; omega, ?_, fun f hf => ?_, fun f hf => ?_, fun f hf => ?_⟩
  · rw [(hl.map _).sum_nat, List.map_cons, List.sum_cons]
    show 0 + _ ≤ room
    rw [Nat.zero_add]
    exact h.used
  · rcases List.mem_cons.1 (hl.mem_iff.1 hf) with rfl | hf
    · intro c hc; simp [Fl.fresh] at hc
    · exact h.byte f hf
  · rcases List.mem_cons.1 (hl.mem_iff.1 hf) with rfl | hf
    · exact Nat.le_refl _
    · exact h.sure f hf
  · rcases List.mem_cons.1 (hl.mem_iff.1 hf) with rfl | hf
    · exact hs
    · exact h.nm f hf
/-- What the insertion of an empty file and the store behind it leave. -/
theorem inserted (h : DiskAt w base p room R rc fs) (hn : fs.length < 200) {s : List UInt8} (hs : s.length ≤ 20) {W : World} (hb : Below w.heap.size w W) {w4 : World} {g' rc' : Nat} {l : List Fl} (hl : l.Perm (Fl.fresh s :: fs)) (hap : l.Pairwise Fl.apart)
    (q2 : w4.ownsRow base 49 3 (.slice (some ⟨g', 0, none⟩) (fs.length + 1) rc') (fs.length + 1) (filesV l)) (q3 : W.grownBy w4 (R.map (·.block))) (q4 : rowOf R g' ∨ g' = W.heap.size) :
    w4.cell? ⟨p, 1, none⟩ = some (.slice R fs.length rc) ∧ w4.frozen? ⟨p, 1, none⟩ = false ∧ Moved w (w4.setCell ⟨p, 1, none⟩ (.slice (some ⟨g', 0, none⟩) (fs.length + 1) rc')) base p room R fs (some ⟨g', 0, none⟩) rc' l := by
  have hd := h.below hb
  have hk : Kept W w4 (rowOf R) := Kept.of_grown q3 (fun k e => e)
  have hlen : l.length = fs.length + 1 := by rw [hl.length_eq]; rfl
  have b1 : w4.heap[p]? = W.heap[p]? := hk.block p (hd.lt (.inl rfl)).2 (fun e => hd.ne_p e rfl)
  refine ⟨(World.cell?_of_block (a := ⟨p, 1, none⟩) b1).trans hd.cell1, (World.frozen?_of_block (a := ⟨p, 1, none⟩) b1).trans (hd.froz 1), ?_⟩
  rw [← hlen] at q2 ⊢
  have hmem : ∀ f ∈ l, f = Fl.fresh s ∨ f ∈ fs := fun f hf => List.mem_cons.1 (hl.mem_iff.1 hf)
  refine ⟨hd.reroll hk (fun e => hd.ne_p e rfl) q2 (fun f hf => ?_) hap (h.ok.add hn hs hl), ?_, fun q hq => ?_⟩
  · rcases hmem f hf with rfl | hf
    · exact World.ownsRow_nil _ _ _ _
    · exact hk.own (hd.own f hf) (fun q e e2 => (hd.ne_f hf (by rw [Fl.row_own] at e; exact e)).2 q e2 rfl)
  · have k1 : Kept w W (foot p R fs) := Kept.of_below hb _
    have k2 : Kept W w4 (foot p R fs) := hk.mono (fun q e => .inr (.inl e))
    exact (k1.trans k2 (fun q e => .inl e)).trans (kept_setCell w4 ⟨p, 1, none⟩ _ (S := foot p R fs) (.inl rfl)) (fun q e => .inl e)
  · rcases hq with q1 | q1 | ⟨f, hf, q1⟩
    · exact .inl (.inl q1)
    · injection q1 with q1
      rcases q4 with e | e
      · exact .inl (.inr (.inl (by rw [← q1]; exact e)))
      · have := hb.size
        have q1' : g' = q := q1
        exact .inr (by omega)
    · rcases hmem f hf with rfl | hf
      · cases q1
      · exact .inl (.inr (.inr ⟨f, hf, q1⟩))
/-- The append to a file's bytes, as the walk wants it. -/
theorem append_step {g : Nat} {B : Option Addr} {m c k L L2 : Nat} {bs : List Nat} {f : Fl} (hd : DiskAt w base p room (some ⟨g, 0, none⟩) rc fs) (hf : fs[k]? = some f) (hb : BRow w B m c bs) (hL : f.b.length = L) (hL2 : L + m = L2) (hu : usedOf fs + m ≤ room) (hbase : base ≤ w.heap.size) :
    ∃ A' c' w', (∀ ty, (Builtin.append_ #[22, 22] ty #[.slice f.A L f.cap, .slice B m c]).run Try.prog w.drew = .ok (.slice A' L2 c') w') ∧ w'.cell? ⟨p, 1, none⟩ = some (.slice (some ⟨g, 0, none⟩) fs.length rc) ∧ w'.cell? ⟨g, k * 3 + 1, none⟩ = some (.slice f.A L f.cap) ∧ w'.frozen? ⟨g, k * 3 + 1, none⟩ = false ∧
      Moved w (w'.setCell ⟨g, k * 3 + 1, none⟩ (.slice A' L2 c')) base p room (some ⟨g, 0, none⟩) fs (some ⟨g, 0, none⟩) rc (fs.set k (f.more A' c' bs)) := by
  subst hL hL2
  have hmem := List.mem_of_getElem? hf
  have hlt := (List.getElem?_eq_some_iff.1 hf).1
  have hdd := hd.drew
  have hbd : BRow w.drew B m c bs := hb.below (below_drewN w 1)
  have hfl := file_len hd hmem
  have hbig := hd.ok.big
  obtain ⟨v', w', q1, q2, q3, q4⟩ := run_append_b w.drew base f.row f.b.length m f.b bs (hdd.own f hmem) B c hbd (by omega) hbase
  obtain ⟨A', c', rfl, hm⟩ := appended hdd hf hb.bytes.1 hb.len hu q2 q3 q4
  have hk1 : Kept w.drew w' (fun q => f.blk = some q) := Kept.of_grown q3 (fun q e => by rw [← Fl.row_own]; exact e)
  have b1 : w'.heap[p]? = w.drew.heap[p]? := hk1.block p (hdd.lt (.inl rfl)).2 (fun e => (hdd.ne_f hmem e).1 rfl)
  have b2 : w'.heap[g]? = w.drew.heap[g]? := hk1.block g (hdd.lt (.inr (.inl rfl))).2 (fun e => (hdd.ne_f hmem e).2 g rfl rfl)
  obtain ⟨g2, eg, _, _, _, _, _, hcell⟩ := hdd.at_ (by omega)
  injection eg with eg
  injection eg with eg
  subst eg
  refine ⟨A', c', w', q1, (World.cell?_of_block (a := ⟨p, 1, none⟩) b1).trans hdd.cell1, (World.cell?_of_block (a := ⟨g, k * 3 + 1, none⟩) b2).trans (hcell k f hf).2.1, (World.frozen?_of_block (a := ⟨g, k * 3 + 1, none⟩) b2).trans (hdd.row.frozenAt _), ?_⟩
  exact (Moved.same hd (below_drewN w 1)).trans hm
end Go.Proofs.Ytofjealjecfkiaa
