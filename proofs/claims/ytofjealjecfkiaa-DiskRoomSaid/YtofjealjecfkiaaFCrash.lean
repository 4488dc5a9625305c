/-
  disk's Crash: the disk that it leaves.
-/
import Derived.Test.YtofjealjecfkiaaFSync
set_option maxRecDepth 100000
namespace Go.Proofs.Ytofjealjecfkiaa
open Go.RowKit
attribute [local go_sem ↓] Go.wp_at_zero Go.wp_at_succ
set_option linter.unusedVariables false
variable {w : World} {base p room rc : Nat} {R : Option Addr} {fs : List Fl}

/-- A row of integers, as it reads. -/
structure IRow (w : World) (A : Option Addr) (n cap : Nat) (ks : List Int) : Prop where
  len : ks.length = n
  le : n ≤ cap
  max : cap ≤ maxLen
  cell : 0 < n → ∃ b off, A = some ⟨b, off, none⟩ ∧ ∀ j, j < n → w.cell? ⟨b, off + j, none⟩ = some (.int .i64 (ks.getD j 0))
  fits : ∀ q ∈ ks, -9223372036854775808 ≤ q ∧ q ≤ 9223372036854775807

/-- What a crash leaves of a file. -/
def crashN (q : Int) (f : Fl) : Nat := min (f.sure + q.toNat) f.b.length
def crashF (q : Int) (f : Fl) : Fl := { f with b := f.b.take (crashN q f), sure := crashN q f }
def crashAll (ks : List Int) (fs : List Fl) : List Fl := fs.mapIdx fun i f => crashF (ks.getD i 0) f

theorem Stepped.trans {w1 w2 : World} {fs1 fs2 : List Fl} (h : Stepped w w1 base p room R rc fs1) (k : Stepped w1 w2 base p room R rc fs2) : Stepped w w2 base p room R rc fs2 :=
  ⟨k.disk, h.kept.trans k.kept (fun j hj => .inl hj), k.size.trans h.size⟩
theorem DiskAt.drew (h : DiskAt w base p room R rc fs) : DiskAt w.drew base p room R rc fs := ⟨h.lo, h.hd, h.row, h.own, h.ap, h.ok⟩
theorem Stepped.drew {w1 : World} {fs1 : List Fl} (h : Stepped w w1 base p room R rc fs1) : Stepped w w1.drew base p room R rc fs1 := ⟨h.disk.drew, kept_drew h.kept, h.size⟩

theorem Stepped.drewN {w1 : World} {fs1 : List Fl} (h : Stepped w w1 base p room R rc fs1) (m : Nat) : Stepped w (w1.drewN m) base p room R rc fs1 := ⟨⟨h.disk.lo, h.disk.hd, h.disk.row, h.disk.own, h.disk.ap, h.disk.ok⟩, ⟨h.kept.os, h.kept.tape, h.kept.output, h.kept.size, h.kept.block⟩, h.size⟩
/-- A file's bytes are cut, and so many are sure. -/
theorem cut_disk {g : Nat} (h : DiskAt w base p room (some ⟨g, 0, none⟩) rc fs) {f : Fl} {k : Nat} (hf : fs[k]? = some f) {n s : Nat} (hn : n ≤ f.b.length) (hs : s ≤ n) :
    Stepped w ((w.setCell ⟨g, k * 3 + 1, none⟩ (.slice f.A n f.cap)).setCell ⟨g, k * 3 + 2, none⟩ (.int .i64 (s : Int))) base p room (some ⟨g, 0, none⟩) rc (fs.set k { f with b := f.b.take n, sure := s }) := by
  have hmem : f ∈ fs := List.mem_of_getElem? hf
  have hl : (f.b.take n).length = n := by rw [List.length_take]; omega
  have hkd : Kept w ((w.setCell ⟨g, k * 3 + 1, none⟩ (.slice f.A n f.cap)).setCell ⟨g, k * 3 + 2, none⟩ (.int .i64 (s : Int))) (rowOf (some ⟨g, 0, none⟩)) :=
    (kept_setCell w ⟨g, k * 3 + 1, none⟩ _ (S := rowOf (some ⟨g, 0, none⟩)) rfl).trans (kept_setCell _ ⟨g, k * 3 + 2, none⟩ _ (S := rowOf (some ⟨g, 0, none⟩)) rfl) (fun j hj => .inl hj)
  refine ⟨h.reset hf hkd ?_ rfl ?_ (h.ok.set hf ?_ (fun c hcc => h.ok.byte f hmem c (List.mem_of_mem_take hcc)) ?_ rfl), hkd, by simp [World.setCell]⟩
  · have s1 := (h.row.stored (k * 3 + 1) (.slice f.A n f.cap)).1
    have s2 := (s1.stored (k * 3 + 2) (.int .i64 (s : Int))).1
    rw [filesV_set fs k f { f with b := f.b.take n, sure := s } hf rfl]
    unfold Fl.row
    rw [hl]
    exact s2
  · unfold Fl.row
    change World.ownsRow w base 5 1 (.slice f.A (f.b.take n).length f.cap) (f.b.take n).length (bytesV (f.b.take n))
    rw [hl]
    exact cut_own (h.own f hmem) hn
  · show (f.b.take n).length ≤ _
    rw [hl]; exact hn
  · show s ≤ (f.b.take n).length
    rw [hl]; exact hs
/-- All of a file's bytes are sure. -/
theorem sure_disk {g : Nat} (h : DiskAt w base p room (some ⟨g, 0, none⟩) rc fs) {f : Fl} {k : Nat} (hf : fs[k]? = some f) :
    Stepped w (w.setCell ⟨g, k * 3 + 2, none⟩ (.int .i64 (f.b.length : Int))) base p room (some ⟨g, 0, none⟩) rc (fs.set k { f with sure := f.b.length }) := by
  have hmem : f ∈ fs := List.mem_of_getElem? hf
  have hkd : Kept w (w.setCell ⟨g, k * 3 + 2, none⟩ (.int .i64 (f.b.length : Int))) (rowOf (some ⟨g, 0, none⟩)) := kept_setCell w ⟨g, k * 3 + 2, none⟩ _ (S := rowOf (some ⟨g, 0, none⟩)) rfl
  refine ⟨h.reset hf hkd ?_ rfl (h.own f hmem) (h.ok.set hf (Nat.le_refl _) (h.ok.byte f hmem) (Nat.le_refl _) rfl), hkd, by simp [World.setCell]⟩
  have := (h.row.stored (k * 3 + 2) (.int .i64 (f.b.length : Int))).1
  rw [filesV_set fs k f { f with sure := f.b.length } hf rfl]
  change World.ownsRow _ _ _ _ _ _ (((filesV fs).set (k * 3 + 1) f.row).set (k * 3 + 2) (.int .i64 (f.b.length : Int)))
  rw [set_same (filesV_get fs k f hf).2.1]
  exact this

/-- Amid the loop: the files up to k are as the crash leaves them. -/
structure CInv (w wr : World) (base p room : Nat) (R : Option Addr) (rc : Nat) (ks : List Int) (fs fr : List Fl) (k : Nat) : Prop where
  st : Stepped w wr base p room R rc fr
  len : fr.length = fs.length
  at_ : ∀ i f, fs[i]? = some f → fr[i]? = some (if i < k then crashF (ks.getD i 0) f else f)
theorem CInv.next {wr W : World} {ks : List Int} {fr : List Fl} {k : Nat} (h : CInv w wr base p room R rc ks fs fr k) {f f' : Fl} (hf : fs[k]? = some f) (he : f' = crashF (ks.getD k 0) f) (hs : Stepped wr W base p room R rc (fr.set k f')) :
    CInv w W base p room R rc ks fs (fr.set k f') (k + 1) := by
  refine ⟨h.st.trans hs, by rw [List.length_set]; exact h.len, fun i g hg => ?_⟩
  rw [List.getElem?_set]
  have hlt := (List.getElem?_eq_some_iff.1 hg).1
  by_cases e : k = i
  · subst e
    rw [if_pos rfl, if_pos (by rw [h.len]; exact hlt), if_pos (by omega), he]
    rw [hf] at hg
    injection hg with hg
    rw [hg]
  · rw [if_neg e, h.at_ i g hg]
    by_cases q : i < k
    · rw [if_pos q, if_pos (by omega)]
    · rw [if_neg q, if_neg (by omega)]
theorem CInv.end_ {wr : World} {ks : List Int} {fr : List Fl} (h : CInv w wr base p room R rc ks fs fr fs.length) : Stepped w wr base p room R rc (crashAll ks fs) := by
  have e : fr = crashAll ks fs := by
    apply List.ext_getElem?
    intro i
    unfold crashAll
    rw [List.getElem?_mapIdx]
    rcases Nat.lt_or_ge i fs.length with q | q
    · rw [h.at_ i _ (List.getElem?_eq_getElem q), if_pos q, List.getElem?_eq_getElem q]
      rfl
    · rw [List.getElem?_eq_none (by rw [h.len]; exact q), List.getElem?_eq_none q]
      rfl
  rw [← e]
  exact h.st
theorem CInv.start (h : DiskAt w base p room R rc fs) (ks : List Int) : CInv w w base p room R rc ks fs fs 0 :=
  ⟨⟨h, Kept.of_below (Below.refl _ _) _, rfl⟩, rfl, fun i f hf => by rw [hf, if_neg (by omega)]⟩
theorem crashF_all {q : Int} {f : Fl} (h : (f.b.length : Int) - f.sure ≤ q) (hs : f.sure ≤ f.b.length) : crashF q f = { f with sure := f.b.length } := by
  have e : crashN q f = f.b.length := by unfold crashN; omega
  unfold crashF
  rw [e, List.take_length]
theorem crashF_some {q : Int} {f : Fl} {n : Nat} (hs : f.sure ≤ f.b.length) (hn : (n : Int) = f.sure + max q 0) (h : q < (f.b.length : Int) - f.sure ∨ q = 0) : crashF q f = { f with b := f.b.take n, sure := n } ∧ n ≤ f.b.length := by
  have e : crashN q f = n := by unfold crashN; omega
  unfold crashF
  rw [e]
  exact ⟨rfl, by omega⟩

set_option maxHeartbeats 2000000 in
theorem crash_any {KA : Option Addr} {kn kc : Nat} {ks : List Int} (h : DiskAt w base p room R rc fs) (hk : IRow w KA kn kc ks) (hap : ∀ x, KA = some x → ¬ rowOf R x.block) :
    Calls Try.prog 11 #[.pointer (some ⟨p, 0, none⟩), .slice KA kn kc] w fun e w' => e = .returned (.tuple #[]) ∧ Stepped w w' base p room R rc (crashAll ks fs) := by
  have c1 := h.cell1
  have hle := h.le
  have hfew := h.ok.few
  have hbig := h.ok.big
  unfold maxLen at hle
  obtain ⟨hle1, hle2⟩ := hle
  have HE : Hid (∀ wr fr, CInv w wr base p room R rc ks fs fr fs.length → Stepped w wr base p room R rc (crashAll ks fs)) := Lib.hid (fun wr fr q => q.end_)
  have HI := Lib.hid (CInv.start h ks)
  have HK := Lib.hid hk
  have HA := Lib.hid hap
  have hkle := hk.le
  have hkmax := hk.max
  unfold maxLen at hkmax
  obtain ⟨n, hn⟩ : ∃ n, n = fs.length := ⟨_, rfl⟩
  rw [← hn] at c1 hle1 hfew HE
  have HN := Lib.hid hn
  clear hn h hk hap
  go_enter Try.func11, Try.ntmps11
  go_wp2
  go_step3
  go_wp2
  go_step3
  go_wp2
  go_loopw [14] (fun si wr => ∃ (k : Nat) (fr : List Fl), k ≤ n ∧ si = .int .i64 (k : Int) ∧ Hid (CInv w wr base p room R rc ks fs fr k)) (fun si _ => n - (intOf si).toNat)
  case atStart => exact ⟨0, fs, by omega, rfl, HI⟩
  case round =>
    obtain ⟨k, fr, hk, rfl, HC⟩ := hrel
    by_cases hlt : k < n
    · have hkl : k < fs.length := by have := HN.out; omega
      obtain ⟨f, hf⟩ : ∃ f, fs[k]? = some f := ⟨_, List.getElem?_eq_getElem hkl⟩
      have hfr : fr[k]? = some f := by rw [HC.out.at_ k f hf, if_neg (by omega)]
      have hd := HC.out.st.disk
      have hmem : f ∈ fr := List.mem_of_getElem? hfr
      obtain ⟨g, rfl, _, _, _, _, _, hcell⟩ := hd.at_ (by rw [HC.out.len]; omega)
      obtain ⟨_, k1, k2⟩ := hcell k f hfr
      have c1 := hd.cell1
      rw [HC.out.len, ← HN.out] at c1
      have fr1 := hd.row.frozenAt (k * 3 + 1)
      have fr2 := hd.row.frozenAt (k * 3 + 2)
      have hSL := hd.ok.sure f hmem
      have hfl := file_len hd hmem
      have hbr := file_brow hd hmem
      have hcap : f.b.length ≤ f.cap := hbr.le
      have hcap2 : f.cap ≤ maxLen := hbr.max
      unfold maxLen at hcap2
      unfold Fl.row at k1
      have sh := fun (m : Nat) (hm : m ≤ f.cap) w => sliceB_hi (A := f.A) (n := f.b.length) (cap := f.cap) (k := m) hm w
      have hk1 : k + 1 ≤ n := hlt
      have hk0 : (k : Int) < (n : Int) := by omega
      have hwk : IntKind.i64.wrap ((k : Int) + 1) = (k : Int) + 1 := by rw [IntKind.wrap_i64]; omega
      by_cases hkn : k < kn
      · obtain ⟨b, off, rfl, hkc⟩ := HK.out.cell (by omega)
        have kq := hkc k hkn
        have kq' : wr.cell? ⟨b, off + k, none⟩ = some (.int .i64 (ks.getD k 0)) := (World.cell?_of_block (HC.out.st.kept.block b (World.block_lt_of_cell? w _ kq) (HA.out _ rfl))).trans kq
        have hfit := HK.out.fits (ks.getD k 0) (by
          rw [List.getD_eq_getElem?_getD, List.getElem?_eq_getElem (by rw [HK.out.len]; exact hkn)]
          exact List.getElem_mem _)
        obtain ⟨q, hq⟩ : ∃ q, q = ks.getD k 0 := ⟨_, rfl⟩
        rw [← hq] at kq' hfit
        have hkn' : ((k : Int) < (kn : Int)) := by omega
        by_cases hqa : (f.b.length : Int) - f.sure ≤ q
        · have e1 := crashF_all hqa hSL
          have HNX : Hid (∀ W, Stepped wr W base p room (some ⟨g, 0, none⟩) rc (fr.set k { f with sure := f.b.length }) → CInv w W base p room (some ⟨g, 0, none⟩) rc ks fs (fr.set k { f with sure := f.b.length }) (k + 1)) := Lib.hid (fun W hs => HC.out.next hf (by rw [← hq, e1]) hs)
          have HST : Hid (∀ m, Stepped wr ((wr.drewN m).setCell ⟨g, k * 3 + 2, none⟩ (.int .i64 (f.b.length : Int))) base p room (some ⟨g, 0, none⟩) rc (fr.set k { f with sure := f.b.length })) := Lib.hid (fun m => (sure_disk hd hfr).drewN m)
          have hw1 : IntKind.i64.wrap ((f.b.length : Int) - f.sure) = (f.b.length : Int) - f.sure := by rw [IntKind.wrap_i64]; omega
          clear e1 hcell hmem hd hf hfr hbr sh hkl HC hq HE HI kq hkc
          generalize f.b.length = L at *
          generalize f.A = A at *
          generalize f.cap = cap at *
          generalize f.sure = S at *
          go_upto_region 5 with fail
          go_quiet (fail)
          go_wp2
          go_roundw
          case rel => exact ⟨k + 1, _, by omega, by go_num, Lib.hid (HNX.out _ (HST.out _))⟩
          case measure => simp [intOf]; omega
        · have hw1 : IntKind.i64.wrap ((f.b.length : Int) - f.sure) = (f.b.length : Int) - f.sure := by rw [IntKind.wrap_i64]; omega
          by_cases hq0 : 0 < q
          · obtain ⟨m, hm⟩ : ∃ m : Nat, (m : Int) = f.sure + q := ⟨(f.sure + q).toNat, by omega⟩
            obtain ⟨e1, e2⟩ := crashF_some (q := q) (f := f) (n := m) hSL (by omega) (.inl (by omega))
            have sh1 := sh m (by omega)
            have HNX : Hid (∀ W, Stepped wr W base p room (some ⟨g, 0, none⟩) rc (fr.set k { f with b := f.b.take m, sure := m }) → CInv w W base p room (some ⟨g, 0, none⟩) rc ks fs (fr.set k { f with b := f.b.take m, sure := m }) (k + 1)) := Lib.hid (fun W hs => HC.out.next hf (by rw [← hq, e1]) hs)
            have HST : Hid (∀ j, Stepped wr (((wr.drewN j).setCell ⟨g, k * 3 + 1, none⟩ (.slice f.A m f.cap)).setCell ⟨g, k * 3 + 2, none⟩ (.int .i64 (m : Int))) base p room (some ⟨g, 0, none⟩) rc (fr.set k { f with b := f.b.take m, sure := m })) := Lib.hid (fun j => (cut_disk hd hfr e2 (Nat.le_refl m)).drewN j)
            have hw2 : IntKind.i64.wrap ((f.sure : Int) + q) = (m : Int) := by rw [IntKind.wrap_i64]; omega
            clear e1 e2 hcell hmem hd hf hfr hbr sh hkl HC hq HE HI kq hkc hm
            generalize f.b.length = L at *
            generalize f.A = A at *
            generalize f.cap = cap at *
            generalize f.sure = S at *
            go_upto_region 5 with fail
            go_quiet (fail)
            go_upto_region 9 with fail
            go_region
            go_wp2
            go_roundw
            case rel => exact ⟨k + 1, _, by omega, by go_num, Lib.hid (HNX.out _ (HST.out _))⟩
            case measure => simp [intOf]; omega
          · obtain ⟨e1, e2⟩ := crashF_some (q := q) (f := f) (n := f.sure) hSL (by omega) (.inl (by omega))
            have sh1 := sh f.sure (by omega)
            have HNX : Hid (∀ W, Stepped wr W base p room (some ⟨g, 0, none⟩) rc (fr.set k { f with b := f.b.take f.sure, sure := f.sure }) → CInv w W base p room (some ⟨g, 0, none⟩) rc ks fs (fr.set k { f with b := f.b.take f.sure, sure := f.sure }) (k + 1)) := Lib.hid (fun W hs => HC.out.next hf (by rw [← hq, e1]) hs)
            have HST : Hid (∀ m, Stepped wr (((wr.drewN m).setCell ⟨g, k * 3 + 1, none⟩ (.slice f.A f.sure f.cap)).setCell ⟨g, k * 3 + 2, none⟩ (.int .i64 (f.sure : Int))) base p room (some ⟨g, 0, none⟩) rc (fr.set k { f with b := f.b.take f.sure, sure := f.sure })) := Lib.hid (fun m => (cut_disk hd hfr e2 (Nat.le_refl f.sure)).drewN m)
            have hw2 : IntKind.i64.wrap (f.sure : Int) = (f.sure : Int) := by rw [IntKind.wrap_i64]; omega
            clear e1 e2 hcell hmem hd hf hfr hbr sh hkl HC hq HE HI kq hkc
            generalize f.b.length = L at *
            generalize f.A = A at *
            generalize f.cap = cap at *
            generalize f.sure = S at *
            go_upto_region 5 with fail
            go_quiet (fail)
            go_upto_region 9 with fail
            go_region
            go_wp2
            go_roundw
            case rel => exact ⟨k + 1, _, by omega, by go_num, Lib.hid (HNX.out _ (HST.out _))⟩
            case measure => simp [intOf]; omega
      · have hq : ks.getD k 0 = 0 := by
          rw [List.getD_eq_getElem?_getD, List.getElem?_eq_none (by rw [HK.out.len]; omega)]
          rfl
        obtain ⟨e1, e2⟩ := crashF_some (q := 0) (f := f) (n := f.sure) hSL (by omega) (.inr rfl)
        have sh1 := sh f.sure (by omega)
        have HNX : Hid (∀ W, Stepped wr W base p room (some ⟨g, 0, none⟩) rc (fr.set k { f with b := f.b.take f.sure, sure := f.sure }) → CInv w W base p room (some ⟨g, 0, none⟩) rc ks fs (fr.set k { f with b := f.b.take f.sure, sure := f.sure }) (k + 1)) := Lib.hid (fun W hs => HC.out.next hf (by rw [hq, e1]) hs)
        have HST : Hid (∀ m, Stepped wr (((wr.drewN m).setCell ⟨g, k * 3 + 1, none⟩ (.slice f.A f.sure f.cap)).setCell ⟨g, k * 3 + 2, none⟩ (.int .i64 (f.sure : Int))) base p room (some ⟨g, 0, none⟩) rc (fr.set k { f with b := f.b.take f.sure, sure := f.sure })) := Lib.hid (fun m => (cut_disk hd hfr e2 (Nat.le_refl f.sure)).drewN m)
        have hw1 : IntKind.i64.wrap (f.sure : Int) = (f.sure : Int) := by rw [IntKind.wrap_i64]; omega
        have hkn' : ¬ ((k : Int) < (kn : Int)) := by omega
        clear e1 e2 hcell hmem hd hf hfr hbr sh hkl HC hq HE HI
        generalize f.b.length = L at *
        generalize f.A = A at *
        generalize f.cap = cap at *
        generalize f.sure = S at *
        go_upto_region 5 with fail
        go_quiet (fail)
        go_upto_region 9 with fail
        go_region
        go_wp2
        go_roundw
        case rel => exact ⟨k + 1, _, by omega, by go_num, Lib.hid (HNX.out _ (HST.out _))⟩
        case measure => simp [intOf]; omega
    · have hkn : k = n := by omega
      have HC2 : Hid (Stepped w wr base p room R rc (crashAll ks fs)) := Lib.hid (HE.out _ fr (by rw [← hkn]; exact HC.out))
      go_wp2
      (try simp only [Exit.noGoto])
      go_end0
      exact ⟨rfl, HC2.out⟩
end Go.Proofs.Ytofjealjecfkiaa
