/-
  A disk as it lies in memory; what keeps it, what it may write; disk's placeOf and look.
-/
import Derived.Test.YtofjealjecfkiaaFName
set_option maxRecDepth 100000
namespace Go.Proofs.Ytofjealjecfkiaa
open Go.RowKit
attribute [local go_sem ↓] Go.wp_at_zero Go.wp_at_succ
set_option linter.unusedVariables false

/-- A file as it lies: its name, where its bytes lie, their room, the bytes, how many are sure. -/
structure Fl where
  nm : List UInt8
  A : Option Addr
  cap : Nat
  b : List Nat
  sure : Nat
def Fl.row (f : Fl) : Value := .slice f.A f.b.length f.cap
def Fl.cells (f : Fl) : List Value := [str f.nm, f.row, .int .i64 (f.sure : Int)]
def Fl.blk (f : Fl) : Option Nat := f.A.map (·.block)
/-- Their bytes lie in unlike blocks. -/
def Fl.apart (a b : Fl) : Prop := ∀ q, a.blk = some q → b.blk ≠ some q
def filesV : List Fl → List Value
  | [] => []
  | f :: r => str f.nm :: f.row :: .int .i64 (f.sure : Int) :: filesV r
theorem filesV_length : ∀ fs : List Fl, (filesV fs).length = fs.length * 3
  | [] => rfl
  | f :: r => by simp only [filesV, List.length_cons, filesV_length r]; omega
theorem filesV_append : ∀ a b : List Fl, filesV (a ++ b) = filesV a ++ filesV b
  | [], _ => rfl
  | f :: r, b => by simp only [List.cons_append, filesV, filesV_append r b]
theorem filesV_get : ∀ (fs : List Fl) (j : Nat) (f : Fl), fs[j]? = some f → (filesV fs)[j * 3]? = some (str f.nm) ∧ (filesV fs)[j * 3 + 1]? = some f.row ∧ (filesV fs)[j * 3 + 2]? = some (.int .i64 (f.sure : Int))
  | [], j, f, h => by simp at h
  | g :: r, 0, f, h => by
    simp at h
    subst h
    exact ⟨rfl, rfl, rfl⟩
  | g :: r, j + 1, f, h => by
    have := filesV_get r j f (by simpa using h)
    rw [show (j + 1) * 3 = j * 3 + 1 + 1 + 1 by omega]
    exact this
theorem filesV_one (fs : List Fl) : ∀ u ∈ filesV fs, u.oneCell' = true := by
  induction fs with
  | nil => intro u hu; simp [filesV] at hu
  | cons f r ih =>
    intro u hu
    simp only [filesV, List.mem_cons] at hu
    rcases hu with rfl | rfl | rfl | hu
    · rfl
    · rfl
    · rfl
    · exact ih u hu

/-- What may be of a disk of that room. -/
structure DOk (room : Nat) (fs : List Fl) : Prop where
  big : room ≤ 1048576
  few : fs.length ≤ 200
  used : (fs.map fun f => f.b.length).sum ≤ room
  byte : ∀ f ∈ fs, ∀ c ∈ f.b, c < 256
  sure : ∀ f ∈ fs, f.sure ≤ f.b.length
  nm : ∀ f ∈ fs, f.nm.length ≤ 20

/-- A disk as it lies at block p: its two cells, the row of files, each file's bytes, all apart. -/
structure DiskAt (w : World) (base p room : Nat) (R : Option Addr) (rc : Nat) (fs : List Fl) : Prop where
  lo : base ≤ p
  hd : w.heap[p]? = some (.cells #[.int .i64 (room : Int), .slice R fs.length rc] 44 (0, 0))
  row : w.ownsRow base 49 3 (.slice R fs.length rc) fs.length (filesV fs)
  own : ∀ f ∈ fs, w.ownsRow base 5 1 f.row f.b.length (bytesV f.b)
  ap : fs.Pairwise Fl.apart
  ok : DOk room fs

/-- Which blocks are the disk's. -/
def foot (p : Nat) (R : Option Addr) (fs : List Fl) (k : Nat) : Prop := k = p ∨ R.map (·.block) = some k ∨ ∃ f ∈ fs, f.blk = some k

/-- Nothing that was there is written, but blocks of S. -/
structure Kept (w w' : World) (S : Nat → Prop) : Prop where
  os : w'.os = w.os
  tape : w'.tape = w.tape
  output : w'.output = w.output
  size : w.heap.size ≤ w'.heap.size
  block : ∀ k, k < w.heap.size → ¬ S k → w'.heap[k]? = w.heap[k]?
theorem Kept.of_below {w w' : World} (h : Below w.heap.size w w') (S : Nat → Prop) : Kept w w' S := ⟨h.os, h.tape, h.output, h.size, fun k hk _ => h.block k hk⟩
theorem Kept.of_grown {w w' : World} {row : Option Nat} (h : w.grownBy w' row) {S : Nat → Prop} (hr : ∀ k, row = some k → S k) : Kept w w' S :=
  ⟨h.os, h.tape, h.output, h.size, fun k hk hs => h.block k hk (fun e => hs (hr k e.symm))⟩
theorem Kept.trans {a b c : World} {S S' : Nat → Prop} (h : Kept a b S) (k : Kept b c S') (hs : ∀ j, S' j → S j ∨ a.heap.size ≤ j) : Kept a c S :=
  ⟨k.os.trans h.os, k.tape.trans h.tape, k.output.trans h.output, Nat.le_trans h.size k.size, fun j hj hn => by
    refine (k.block j (Nat.lt_of_lt_of_le hj h.size) (fun e => ?_)).trans (h.block j hj hn)
    rcases hs j e with e | e
    · exact hn e
    · omega⟩
theorem Kept.mono {a b : World} {S S' : Nat → Prop} (h : Kept a b S) (hs : ∀ j, S j → S' j) : Kept a b S' := ⟨h.os, h.tape, h.output, h.size, fun j hj hn => h.block j hj (fun e => hn (hs j e))⟩
theorem Kept.below {a b : World} {S : Nat → Prop} {B : Nat} (h : Kept a b S) (hb : B ≤ a.heap.size) (hs : ∀ j, S j → B ≤ j) : Below B a b :=
  ⟨h.os, h.tape, h.output, h.size, fun j hj => h.block j (by omega) (fun e => by have := hs j e; omega)⟩
theorem Kept.own {a b : World} {S : Nat → Prop} (h : Kept a b S) {base e size n : Nat} {v : Value} {xs : List Value} (o : a.ownsRow base e size v n xs) (hs : ∀ k, v.ownBlock = some k → ¬ S k) : b.ownsRow base e size v n xs := by
  refine ⟨o.1, ?_⟩
  rcases o.2 with hn | ⟨g, cap, cur, rfl, hb, hg, rest⟩
  · exact .inl hn
  · refine .inr ⟨g, cap, cur, rfl, hb, ?_, rest⟩
    rw [h.block g (Array.getElem?_eq_some_iff.1 hg).1 (hs g rfl)]
    exact hg
theorem Kept.bytes {a b : World} {S : Nat → Prop} (h : Kept a b S) {A : Option Addr} {bs : List Nat} (o : Bytes a A bs) (hs : ∀ x, A = some x → ¬ S x.block) : Bytes b A bs := by
  refine ⟨o.1, fun hp => ?_⟩
  obtain ⟨x, rfl, hc⟩ := o.2 hp
  refine ⟨x, rfl, fun j hj => ?_⟩
  have hlt := World.block_lt_of_cell? a _ (hc j hj)
  have hbk : (x.add j).block = x.block := by unfold Addr.add; split <;> rfl
  rw [← hc j hj]
  exact World.cell?_of_block (h.block _ hlt (by rw [hbk]; exact hs x rfl))
theorem Kept.brow {a b : World} {S : Nat → Prop} (h : Kept a b S) {A : Option Addr} {n cap : Nat} {bs : List Nat} (o : BRow a A n cap bs) (hs : ∀ x, A = some x → ¬ S x.block) : BRow b A n cap bs :=
  ⟨h.bytes o.bytes hs, o.len, o.le, o.max, o.nil⟩

variable {w : World} {base p room rc : Nat} {R : Option Addr} {fs : List Fl}

theorem Fl.row_own (f : Fl) : f.row.ownBlock = f.blk := by
  unfold Fl.row Fl.blk Value.ownBlock
  cases f.A <;> rfl
theorem row_ownBlock (R : Option Addr) (n c : Nat) : (Value.slice R n c).ownBlock = R.map (·.block) := by cases R <;> rfl
theorem DiskAt.lt (h : DiskAt w base p room R rc fs) {k : Nat} (hk : foot p R fs k) : base ≤ k ∧ k < w.heap.size := by
  rcases hk with rfl | hk | ⟨f, hf, hk⟩
  · exact ⟨h.lo, (Array.getElem?_eq_some_iff.1 h.hd).1⟩
  · exact h.row.lt k (by rw [row_ownBlock]; exact hk)
  · exact (h.own f hf).lt k (by rw [Fl.row_own]; exact hk)
/-- What leaves the disk's blocks alone leaves the disk. -/
theorem DiskAt.kept (h : DiskAt w base p room R rc fs) {w' : World} {S : Nat → Prop} (hk : Kept w w' S) (hs : ∀ k, foot p R fs k → ¬ S k) : DiskAt w' base p room R rc fs := by
  refine ⟨h.lo, ?_, hk.own h.row ?_, fun f hf => hk.own (h.own f hf) ?_, h.ap, h.ok⟩
  · rw [hk.block p (h.lt (.inl rfl)).2 (hs p (.inl rfl))]
    exact h.hd
  · intro k e
    rw [row_ownBlock] at e
    exact hs k (.inr (.inl e))
  · intro k e
    rw [Fl.row_own] at e
    exact hs k (.inr (.inr ⟨f, hf, e⟩))
theorem DiskAt.below (h : DiskAt w base p room R rc fs) {w' : World} (hb : Below w.heap.size w w') : DiskAt w' base p room R rc fs :=
  h.kept (Kept.of_below hb fun _ => False) (fun _ _ e => e)
theorem DiskAt.cell0 (h : DiskAt w base p room R rc fs) : w.cell? ⟨p, 0, none⟩ = some (.int .i64 (room : Int)) := by rw [cell_of_row w p 0 _ _ _ h.hd]; rfl
theorem DiskAt.cell1 (h : DiskAt w base p room R rc fs) : w.cell? ⟨p, 1, none⟩ = some (.slice R fs.length rc) := by rw [cell_of_row w p 1 _ _ _ h.hd]; rfl
theorem DiskAt.froz (h : DiskAt w base p room R rc fs) (j : Nat) : w.frozen? ⟨p, j, none⟩ = false := frozen_of_row w p j _ _ h.hd
theorem DiskAt.at_ (h : DiskAt w base p room R rc fs) (h0 : 0 < fs.length) : ∃ g, R = some ⟨g, 0, none⟩ ∧ base ≤ g ∧ g < w.heap.size ∧ fs.length ≤ rc ∧ rc ≤ maxLen ∧ (∃ cur : Array Value, w.heap[g]? = some (.cells cur 49 (0, 0)) ∧ cur.size = rc * 3) ∧
    ∀ j f, fs[j]? = some f → w.cell? ⟨g, j * 3, none⟩ = some (str f.nm) ∧ w.cell? ⟨g, j * 3 + 1, none⟩ = some f.row ∧ w.cell? ⟨g, j * 3 + 2, none⟩ = some (.int .i64 (f.sure : Int)) := by
  rcases h.row.2 with ⟨_, e⟩ | ⟨g, cap, cur, e, hb, hg, h1, h2, h3, h4⟩
  · omega
  · injection e with e1 e2 e3
    subst e3
    refine ⟨g, e1, hb, (Array.getElem?_eq_some_iff.1 hg).1, h1, h2, ⟨cur, hg, h3⟩, fun j f hf => ?_⟩
    have hc := h.row.cells (g := g) (by rw [e1]; rfl)
    obtain ⟨q0, q1, q2⟩ := filesV_get fs j f hf
    have c0 := hc _ _ q0
    have c1 := hc _ _ q1
    have c2 := hc _ _ q2
    rw [addr0] at c0 c1 c2
    exact ⟨c0, c1, c2⟩
theorem DiskAt.le (h : DiskAt w base p room R rc fs) : fs.length ≤ rc ∧ rc ≤ maxLen := by
  rcases h.row.2 with ⟨e, e0⟩ | ⟨g, cap, cur, e, hb, hg, h1, h2, h3, h4⟩
  · injection e with e1 e2 e3
    rw [e3, e0]
    exact ⟨Nat.le_refl _, Nat.zero_le _⟩
  · injection e with e1 e2 e3
    subst e3
    exact ⟨h1, h2⟩

/-- Where the file of that name stands among those. -/
def plc (fs : List Fl) (s : List UInt8) : Nat × Bool := place (fs.map Fl.nm) s
theorem plc_le (fs : List Fl) (s : List UInt8) : (plc fs s).1 ≤ fs.length := by have := place_le (fs.map Fl.nm) s; simpa [plc] using this

set_option maxHeartbeats 1000000 in
theorem placeOf_any (s : List UInt8) (h : DiskAt w base p room R rc fs) :
    Calls Try.prog 24 #[.pointer (some ⟨p, 0, none⟩), str s] w fun e w' => e = .returned (.tuple #[.int .i64 ((plc fs s).1 : Int), .bool (plc fs s).2]) ∧ w = w' := by
  have c1 := h.cell1
  have hle := h.le
  have hfew := h.ok.few
  unfold maxLen at hle
  obtain ⟨l, hl⟩ : ∃ l, l = fs.map Fl.nm := ⟨_, rfl⟩
  have hn : fs.length = l.length := by rw [hl]; simp
  have HR : Hid (0 < l.length → ∃ g, R = some ⟨g, 0, none⟩ ∧ ∀ j (hj : j < l.length), w.cell? ⟨g, j * 3, none⟩ = some (str (l[j]))) := Lib.hid (fun h0 => by
    obtain ⟨g, e, _, _, _, _, _, hc⟩ := h.at_ (by omega)
    refine ⟨g, e, fun j hj => ?_⟩
    have hj' : j < fs.length := by omega
    have := (hc j fs[j] (List.getElem?_eq_getElem hj')).1
    rw [this]
    subst hl
    simp)
  obtain ⟨A, hA⟩ : ∃ A, A = (plc fs s).1 := ⟨_, rfl⟩
  obtain ⟨B, hB⟩ : ∃ B, B = (plc fs s).2 := ⟨_, rfl⟩
  have HP : Hid (A = (place l s).1 ∧ B = (place l s).2) := Lib.hid (by rw [hA, hB, hl]; exact ⟨rfl, rfl⟩)
  rw [← hA, ← hB]
  obtain ⟨n, hn'⟩ : ∃ n, n = l.length := ⟨_, rfl⟩
  rw [hn, ← hn'] at c1 hle hfew
  have HN := Lib.hid hn'
  obtain ⟨hle1, hle2⟩ := hle
  clear hA hB hl hn h hn'
  go_enter Try.func24, Try.ntmps24
  go_wp2
  go_step3
  go_wp2
  go_step3
  go_wp2
  go_loopw [6, 7] (fun si sb wr => ∃ (k : Nat), k ≤ n ∧ si = .int .i64 (k : Int) ∧ sb = .bool false ∧ Hid (A = k + (place (l.drop k) s).1 ∧ B = (place (l.drop k) s).2) ∧ w = wr) (fun si _ _ => n - (intOf si).toNat)
  case atStart => exact ⟨0, by omega, rfl, rfl, Lib.hid (by simpa using HP.out), rfl⟩
  case round =>
    obtain ⟨k, hk, rfl, rfl, HK, rfl⟩ := hrel
    by_cases hlt : k < n
    · obtain ⟨g, hRg, hc⟩ := HR.out (by have := HN.out; omega)
      have hkl : k < l.length := by have := HN.out; omega
      have ck := hc k hkl
      have ed : l.drop k = l[k] :: l.drop (k + 1) := List.drop_eq_getElem_cons hkl
      have HK' := HK.out
      rw [ed] at HK'
      generalize l[k] = x at ck HK'
      have hk1 : k + 1 ≤ n := hlt
      subst hRg
      have m := compare_any x s w
      have w1 : IntKind.i64.wrap ((k : Int) + 1) = (k : Int) + 1 := by rw [IntKind.wrap_i64]; omega
      rcases cmpB_three x s with hcmp | hcmp | hcmp
      · have HK2 : Hid (A = (k + 1) + (place (l.drop (k + 1)) s).1 ∧ B = (place (l.drop (k + 1)) s).2) := Lib.hid (by
          rw [HK'.1, HK'.2]
          rw [place_cons, hcmp, if_neg (by decide), if_neg (by decide)]
          exact ⟨by omega, rfl⟩)
        rw [hcmp] at m
        have M := Lib.hid m
        clear HK' HK ed hc m hcmp
        go_wp2_with fail
        refine M.out.mono ?_
        rintro e w' ⟨rfl, rfl⟩
        go_wp2
        go_roundw
        case rel => exact ⟨k + 1, by omega, by go_num, rfl, HK2, trivial⟩
        case measure => simp [intOf]; omega
      · have HK2 : Hid (A = k ∧ B = true) := Lib.hid (by
          rw [HK'.1, HK'.2]
          rw [place_cons, hcmp, if_pos rfl]
          exact ⟨by omega, rfl⟩)
        rw [hcmp] at m
        have M := Lib.hid m
        clear HK' HK ed hc m hcmp
        go_wp2_with fail
        refine M.out.mono ?_
        rintro e w' ⟨rfl, rfl⟩
        go_wp2
        (try rw [Exit.noGoto_ret])
        go_ret2
        exact ⟨by rw [HK2.out.1, HK2.out.2]; rfl, rfl⟩
      · have HK2 : Hid (A = k ∧ B = false) := Lib.hid (by
          rw [HK'.1, HK'.2]
          rw [place_cons, hcmp, if_neg (by decide), if_pos rfl]
          exact ⟨by omega, rfl⟩)
        rw [hcmp] at m
        have M := Lib.hid m
        clear HK' HK ed hc m hcmp
        go_wp2_with fail
        refine M.out.mono ?_
        rintro e w' ⟨rfl, rfl⟩
        go_wp2
        (try rw [Exit.noGoto_ret])
        go_ret2
        exact ⟨by rw [HK2.out.1, HK2.out.2]; rfl, rfl⟩
    · have HK2 : Hid (A = k ∧ B = false) := Lib.hid (by
        rw [HK.out.1, HK.out.2, List.drop_eq_nil_of_le (by rw [← HN.out]; omega)]
        exact ⟨by simp [place], rfl⟩)
      go_wp2
      (try rw [Exit.noGoto_ret])
      go_ret2
      exact ⟨by rw [HK2.out.1, HK2.out.2]; rfl, rfl⟩

/-- What look answers. -/
def lookC (fs : List Fl) (s : List UInt8) : Nat × Nat := if isNm s then (if (plc fs s).2 then ((plc fs s).1, 0) else ((plc fs s).1, 9)) else (0, 1)
theorem look_any (s : List UInt8) (h : DiskAt w base p room R rc fs) :
    Calls Try.prog 18 #[.pointer (some ⟨p, 0, none⟩), str s] w fun e w' => e = .returned (.tuple #[.int .i64 ((lookC fs s).1 : Int), .int .i64 ((lookC fs s).2 : Int)]) ∧ w = w' := by
  have m1 := isName_any s w
  have M2 := Lib.hid (placeOf_any s h)
  obtain ⟨A, hA⟩ : ∃ A, A = (plc fs s).1 := ⟨_, rfl⟩
  rw [← hA] at M2
  by_cases hs : isNm s = true
  · rw [hs] at m1
    by_cases hp : (plc fs s).2 = true
    · have HL : Hid (lookC fs s = (A, 0)) := Lib.hid (by unfold lookC; rw [if_pos hs, if_pos hp, hA])
      rw [hp] at M2
      have M1 := Lib.hid m1
      clear hA hs hp h m1
      go_enter Try.func18, Try.ntmps18
      go_wp2_with fail
      refine M1.out.mono ?_
      rintro e w' ⟨rfl, rfl⟩
      go_wp2_with fail
      refine M2.out.mono ?_
      rintro e w' ⟨rfl, rfl⟩
      go_wp2
      go_ret2
      exact ⟨by rw [HL.out]; rfl, rfl⟩
    · have HL : Hid (lookC fs s = (A, 9)) := Lib.hid (by unfold lookC; rw [if_pos hs, if_neg hp, hA])
      rw [show (plc fs s).2 = false by simpa using hp] at M2
      have M1 := Lib.hid m1
      clear hA hs hp h m1
      go_enter Try.func18, Try.ntmps18
      go_wp2_with fail
      refine M1.out.mono ?_
      rintro e w' ⟨rfl, rfl⟩
      go_wp2_with fail
      refine M2.out.mono ?_
      rintro e w' ⟨rfl, rfl⟩
      go_wp2
      go_ret2
      exact ⟨by rw [HL.out]; rfl, rfl⟩
  · have HL : Hid (lookC fs s = (0, 1)) := Lib.hid (by unfold lookC; rw [if_neg hs])
    rw [show isNm s = false by simpa using hs] at m1
    have M1 := Lib.hid m1
    clear hA hs h m1
    go_enter Try.func18, Try.ntmps18
    go_wp2_with fail
    refine M1.out.mono ?_
    rintro e w' ⟨rfl, rfl⟩
    go_wp2
    go_ret2
    exact ⟨by rw [HL.out]; rfl, rfl⟩
theorem look_nil (s : List UInt8) (w : World) :
    Calls Try.prog 18 #[.pointer none, str s] w fun e w' => e = .returned (.tuple #[.int .i64 0, .int .i64 (if isNm s then 10 else 1)]) ∧ w = w' := by
  have m1 := isName_any s w
  by_cases hs : isNm s = true
  · rw [hs] at m1
    rw [if_pos hs]
    have M1 := Lib.hid m1
    clear hs m1
    go_enter Try.func18, Try.ntmps18
    go_wp2_with fail
    refine M1.out.mono ?_
    rintro e w' ⟨rfl, rfl⟩
    go_wp2
    go_ret2
    exact ⟨rfl, rfl⟩
  · rw [show isNm s = false by simpa using hs] at m1
    rw [if_neg hs]
    have M1 := Lib.hid m1
    clear hs m1
    go_enter Try.func18, Try.ntmps18
    go_wp2_with fail
    refine M1.out.mono ?_
    rintro e w' ⟨rfl, rfl⟩
    go_wp2
    go_ret2
    exact ⟨rfl, rfl⟩
end Go.Proofs.Ytofjealjecfkiaa
