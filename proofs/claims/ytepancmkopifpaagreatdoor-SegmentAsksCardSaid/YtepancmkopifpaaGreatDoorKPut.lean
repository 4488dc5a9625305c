/-
  The landed block's Put: what it returns of every row of samples; nothing that was there is written.
-/
import Derived.Test.YtepancmkopifpaaGreatDoorKAdd
namespace Go.Proofs.YtepancmkopifpaaGreatDoor
open Go.RowKit
attribute [local go_sem ↓] Go.wp_at_zero Go.wp_at_succ
set_option linter.unusedVariables false

/-- A sample's variable at block g: what it holds; it may be written. -/
structure SVar (w : World) (g : Nat) (t v : Int) : Prop where
  c0 : w.cell? ⟨g, 0, none⟩ = some (.int .i64 t)
  c1 : w.cell? ⟨g, 1, none⟩ = some (.int .i64 v)
  f0 : w.frozen? ⟨g, 0, none⟩ = false
  f1 : w.frozen? ⟨g, 1, none⟩ = false
theorem SVar.lt {w : World} {g : Nat} {t v : Int} (h : SVar w g t v) : g < w.heap.size := World.block_lt_of_cell? w _ h.c0
theorem SVar.grown {w w' : World} {g : Nat} {t v : Int} {row : Option Nat} (h : SVar w g t v) (hg : w.grownBy w' row) (hne : some g ≠ row) : SVar w' g t v := by
  have c := fun k => hg.cell_far ⟨g, k, none⟩ h.lt hne
  have f := fun k => hg.frozen_far ⟨g, k, none⟩ h.lt hne
  exact ⟨by rw [c]; exact h.c0, by rw [c]; exact h.c1, by rw [f]; exact h.f0, by rw [f]; exact h.f1⟩
theorem SVar.new (w : World) (t v : Int) : SVar (w.alloc (.cells #[.int .i64 t, .int .i64 v] 48)) w.heap.size t v := by constructor <;> simp
theorem SVar.set {w : World} {g : Nat} {t v : Int} (h : SVar w g t v) (t' v' : Int) : SVar ((w.setCell ⟨g, 0, none⟩ (.int .i64 t')).setCell ⟨g, 1, none⟩ (.int .i64 v')) g t' v' := by
  obtain ⟨c0, c1, f0, f1⟩ := h
  constructor <;> simp [go_sem, *]
theorem g_two (w : World) (g : Nat) (a b : Value) : w.grownBy ((w.setCell ⟨g, 0, none⟩ a).setCell ⟨g, 1, none⟩ b) (some g) := (g_cell w g 0 a).trans (g_cell _ g 1 b)
theorem g_all (w : World) (o : Obj) (row : Option Nat) : w.grownBy (w.alloc o) row := World.grownBy_alloc w o row
theorem g_drew (w : World) (n : Nat) (row : Option Nat) : w.grownBy (w.drewN n) row := ⟨rfl, rfl, rfl, Nat.le_refl _, fun _ _ _ => rfl⟩
theorem ownB.grown {w w' : World} {base g cap : Nat} {d : List Nat} {row : Option Nat} (h : ownB w base g cap d) (hg : w.grownBy w' row) (hne : some g ≠ row) : ownB w' base g cap d := by
  unfold ownB at *
  exact h.kept hg (Or.inr (by simpa [Value.ownBlock] using hne))
theorem ownB.lt {w : World} {base g cap : Nat} {d : List Nat} (h : ownB w base g cap d) : base ≤ g ∧ g < w.heap.size := World.ownsRow.lt h g rfl

def AddTo (u : World) (base g : Nat) (d ns : List Nat) (e : Ending) (w' : World) : Prop :=
  ∃ g' cap' L, e = .returned (.slice (some ⟨g', 0, none⟩) L cap') ∧ (d ++ bytesOf ns).length = L ∧ ownB w' base g' cap' (d ++ bytesOf ns) ∧ u.grownBy w' (some g) ∧ (g' = g ∨ u.heap.size ≤ g')
theorem add_two (base g cap L : Nat) (d : List Nat) (x y : Nat) (u : World) (ho : ownB u base g cap d) (hL : d.length = L) (hx : x < 18446744073709551616) (hy : y < 18446744073709551616) (hd : L ≤ 5000) (hb : base ≤ u.heap.size) :
    Calls Tryz.prog 78 #[.slice (some ⟨g, 0, none⟩) L cap, .slice (some ⟨u.heap.size, 0, none⟩) 2 2] (u.alloc (.cells #[.int .u64 (x : Int), .int .u64 (y : Int)] 53)) (AddTo u base g d [x, y]) := by
  have hne : u.heap.size ≠ g := by have := ho.lt; omega
  have ho2 := ho.grown (g_all u (.cells #[.int .u64 (x : Int), .int .u64 (y : Int)] 53) none) (by simp)
  have h := add_any base g cap d u.heap.size 2 [x, y] _ ho2 (by intro n hn; simp at hn; rcases hn with rfl | rfl <;> assumption)
    (by intro j hj
        match j, hj with
        | 0, _ => simp
        | 1, _ => simp) hne (by simp) (by simp) (by omega) (by simp; omega) (by simp)
  rw [← hL]
  refine h.mono ?_
  rintro e w' ⟨g', cap', rfl, h1, h2, h3⟩
  refine ⟨g', cap', _, rfl, rfl, h1, (g_all u _ _).trans h2, ?_⟩
  rcases h3 with h3 | h3
  · exact .inl h3
  · right
    have := (g_all u (.cells #[.int .u64 (x : Int), .int .u64 (y : Int)] 53) none).size
    omega

/-- What the loop holds. -/
structure KPInv (w wr : World) (l : List (Int × Int)) (i : Nat) (s : Int) (gA : Nat) (ta va : Int) (g cap : Nat) (d : List Nat) : Prop where
  says : putB l = d ++ bytesOf (sFrom l i s)
  len : d.length ≤ 10 + 20 * i
  own : ownB wr w.heap.size g cap d
  below : Below w.heap.size w wr
  step : 0 ≤ s ∧ s ≤ 1099511627776
  none : i = 0 → s = 0
  base : w.heap.size ≤ gA
  ne : gA ≠ g
  ah : SVar wr gA ta va
  is : 0 < i → (ta, va) = l.getD (i - 1) (0, 0)
def PutBPost (w : World) (d : List Nat) (e : Ending) (w' : World) : Prop :=
  ∃ g cap, e = .returned (.tuple #[.slice (some ⟨g, 0, none⟩) d.length cap, .int .i64 0]) ∧ ownB w' w.heap.size g cap d ∧ Below w.heap.size w w'

set_option maxRecDepth 100000 in
set_option maxHeartbeats 4000000 in
theorem kput_in (b off n cap : Nat) (l : List (Int × Int)) (w : World) (hl : l.length = n) (hS : Samps w (some ⟨b, off, none⟩) l) (hc : n ≤ cap) (hm : cap ≤ maxLen) (hok : BOk l) :
    Calls Tryz.prog 52 #[.slice (some ⟨b, off, none⟩) n cap] w (PutBPost w (putB l)) := by
  have m0 := fun w (h : Samps w (some ⟨b, off, none⟩) l) => rising_any hl h hc hm
  rw [decide_eq_true hok.1] at m0
  have M0 := Lib.hid m0
  have M1 := Lib.hid (fun w => put_any n w (by have := hok.2; omega))
  have hn64 : (n : Int) ≤ 64 := by have := hok.2; omega
  have HS := Lib.hid hS
  have HOK := Lib.hid hok
  have HL := Lib.hid hl
  clear m0 hS hok hl hm
  go_enter Tryz.func52, Tryz.ntmps52
  go_wp2
  go_step3
  go_wp2_with fail
  refine (M0.out _ HS.out).mono ?_
  rintro e w1 ⟨rfl, hb1⟩
  have HB1 := Lib.hid hb1
  clear hb1
  go_wp2_with fail
  refine (M1.out _).mono ?_
  rintro e w2 ⟨g0, cap0, rfl, hown2, hb2⟩
  have HI0 : Hid (KPInv w (w2.alloc (.cells #[.int .i64 0, .int .i64 0] 48)) l 0 0 w2.heap.size 0 0 g0 cap0 (enc n)) := Lib.hid (by
    have hB := past HB1.out hb2
    have ho : ownB w2 w.heap.size g0 cap0 (enc n) := by
      unfold ownB
      refine ⟨hown2.1, ?_⟩
      rcases hown2.2 with h | ⟨g, cap, cur, e, hg, r⟩
      · exact Or.inl h
      · exact Or.inr ⟨g, cap, cur, e, Nat.le_trans HB1.out.size hg, r⟩
    refine ⟨by unfold putB; rw [sFrom_zero, bytesOf_cons, HL.out], by have := enc_len_le (n := n) (by omega); omega, ho.grown (g_all _ _ (some w2.heap.size)) (fun e => ?_), past_alloc hB _, by omega, fun _ => rfl, hB.size, ?_, SVar.new _ _ _, fun h => absurd h (by omega)⟩
    · injection e with e
      have := ho.lt
      omega
    · have := ho.lt
      omega)
  clear hb2 HB1 M0 M1 hown2
  generalize hg0 : (enc n).length = E0
  go_wp2
  go_step3
  go_wp2
  generalize w2.alloc (.cells #[.int .i64 0, .int .i64 0] 48) = w3 at *
  generalize w2.heap.size = gA at *
  go_loopw [4, 6, 24] (fun s4 s6 s24 wr => ∃ (i : Nat) (s : Int) (ta va : Int) (g cap L : Nat) (d : List Nat), i ≤ n ∧ s4 = .slice (some ⟨g, 0, none⟩) L cap ∧ s6 = .int .i64 s ∧ s24 = .int .i64 (i : Int) ∧ Hid (d.length = L) ∧ Hid (KPInv w wr l i s gA ta va g cap d)) (fun _ _ s24 _ => n - (intOf s24).toNat)
  case atStart => exact ⟨0, 0, 0, 0, g0, cap0, E0, enc n, by omega, rfl, rfl, rfl, Lib.hid hg0, HI0⟩
  case round =>
    clear HI0 hg0
    obtain ⟨i, s, ta, va, g, cap2, L, d, hi, rfl, rfl, rfl, HLD, HI⟩ := hrel
    by_cases hlt : i < n
    · match i, hlt, hi, HI with
      | 0, hlt, hi, HI =>
        obtain ⟨x, r, hx⟩ : ∃ x r, l = x :: r := by
          match l, HL.out with
          | [], h => simp at h; omega
          | x :: r, _ => exact ⟨x, r, rfl⟩
        obtain ⟨t, v⟩ := x
        have hrise := (HOK.out.1 0 (by rw [HL.out]; exact hlt)).1
        have hin := HS.out.1 (t, v) (by rw [hx]; simp)
        have ht : Ag.begin_ t := by rw [hx] at hrise; exact hrise
        obtain ⟨T, hT⟩ : ∃ T : Nat, t = (T : Int) := ⟨t.toNat, by unfold Ag.begin_ at ht; omega⟩
        have hTM : T ≤ 1099511627776 := by unfold Ag.begin_ at ht; omega
        obtain ⟨z1, z2⟩ := zig_nat hin.2
        have m2 := fun w => zig_any v w hin.2.1 hin.2.2
        generalize hZ : (zig v).toNat = Z at z1 z2
        rw [← z1] at m2
        have M2 := Lib.hid m2
        have hsh := HS.out.below HI.out.below
        obtain ⟨c0, c1⟩ : wr.cell? ⟨b, off, none⟩ = some (.int .i64 (T : Int)) ∧ wr.cell? ⟨b, off + 1, none⟩ = some (.int .i64 v) := by
          obtain ⟨b', o', e, hcc⟩ := hsh.2 (by rw [HL.out]; exact hlt)
          injection e with e
          injection e with e1 e2
          subst e1 e2
          have := hcc 0 (by rw [HL.out]; exact hlt)
          rw [hx] at this
          simp only [Nat.zero_mul, Nat.add_zero, List.getD_cons_zero] at this
          rw [← hT]
          exact this
        have HNX : Hid (∀ wa g2 cap3, ownB wa w.heap.size g2 cap3 (d ++ bytesOf [T, Z]) → Below w.heap.size w wa → gA ≠ g2 → SVar wa gA (T : Int) v → KPInv w wa l 1 s gA (T : Int) v g2 cap3 (d ++ bytesOf [T, Z])) := Lib.hid (fun wa g2 cap3 h1 h2 h3 h4 => by
          have hs0 := HI.out.none rfl
          refine ⟨?_, ?_, h1, h2, by omega, fun h => absurd h (by omega), HI.out.base, h3, h4, fun _ => ?_⟩
          · rw [hs0, HI.out.says, show sFrom l 0 s = sFrom l 0 0 from rfl, hx, sFrom_first, bytesOf_cons, bytesOf_cons]
            simp only
            rw [hT, hZ]
            simp [bytesOf]
          · have := HI.out.len
            have := enc_len_le (n := T) (by omega)
            have := enc_len_le z2
            simp only [List.length_append, bytesOf, List.flatMap_cons, List.flatMap_nil, List.length_nil]
            omega
          · rw [hx]
            simp [hT])
        have hLe : L ≤ 5000 := by have := HI.out.len; have := HLD.out; omega
        have HO1 := Lib.hid (HI.out.own.grown (g_all wr (.cells #[.int .i64 (T : Int), .int .i64 v] 48) none) (by simp))
        have HB1 := Lib.hid (past_alloc HI.out.below (.cells #[.int .i64 (T : Int), .int .i64 v] 48))
        have HA1 := Lib.hid (HI.out.ah.grown (g_all wr (.cells #[.int .i64 (T : Int), .int .i64 v] 48) none) (by simp))
        have HSV := Lib.hid (SVar.new wr (T : Int) v)
        have HNG : Hid (wr.heap.size ≠ g ∧ wr.heap.size ≠ gA) := Lib.hid ⟨by have := HI.out.own.lt; omega, by have := HI.out.ah.lt; omega⟩
        have HNA := Lib.hid HI.out.ne
        have HBA := Lib.hid HI.out.base
        have hwT : IntKind.u64.wrap (T : Int) = (T : Int) := by rw [IntKind.wrap_u64]; omega
        have i0 : (0 : Int) < (n : Int) := by omega
        clear hx hrise hin ht hT hZ z1 m2 hsh HI
        go_upto_region 10 with fail
        generalize wr.alloc (.cells #[.int .i64 (T : Int), .int .i64 v] 48) = ws at *
        generalize wr.heap.size = gs at *
        clear c0 c1
        have HST : Hid (∀ w' row, ws.grownBy w' row → some gs ≠ row → w'.cell? ⟨gs, 0, none⟩ = some (.int .i64 (T : Int)) ∧ w'.cell? ⟨gs, 1, none⟩ = some (.int .i64 v)) := Lib.hid (fun w' row h1 h2 => ⟨(HSV.out.grown h1 h2).c0, (HSV.out.grown h1 h2).c1⟩)
        have MA : Hid (∀ u : World, ws.grownBy u none → Calls Tryz.prog 78 #[.slice (some ⟨g, 0, none⟩) L cap2, .slice (some ⟨u.heap.size, 0, none⟩) 2 2] (u.alloc (.cells #[.int .u64 (T : Int), .int .u64 (Z : Int)] 53)) (AddTo u w.heap.size g d [T, Z])) := Lib.hid (fun u hu => add_two w.heap.size g cap2 L d T Z u (HO1.out.grown hu (by simp)) HLD.out (by omega) z2 hLe (Nat.le_trans HB1.out.size hu.size))
        obtain ⟨cz0, cz1⟩ := HST.out ws none (Below.refl ws.heap.size ws |> fun h => grown_of h none) (by simp)
        go_region_held3 (fun w' => w'.cell? ⟨gs, 0, none⟩ = some (.int .i64 (T : Int)) ∧ w'.cell? ⟨gs, 1, none⟩ = some (.int .i64 v))
          (first
            | exact hS2
            | exact HST.out _ none (g_drew ws 1 none) (by simp)
            | exact HST.out _ none ((g_drew ws 1 none).trans (g_all _ _ none)) (by simp)
            | exact HST.out _ none (grown_of (Below.refl _ _) none) (by simp))
          (first
            | (go_at_call 79; refine (M2.out _).mono ?_; rintro e wt ⟨rfl, rfl⟩)
            | (go_at_call 78; refine (MA.out _ (g_drew ws 1 none)).mono ?_; rintro e wt ⟨g2, cap3, L2, rfl, hL2, hown2, hg2, hat⟩; have hS2 := HST.out wt (some g) ((g_drew ws 1 (some g)).trans hg2) (fun e => HNG.out.1 (by injection e))))
        have HS2 := Lib.hid (HSV.out.grown ((g_drew ws 1 (some g)).trans hg2) (fun e => HNG.out.1 (by injection e)))
        have HA2 := Lib.hid (HA1.out.grown ((g_drew ws 1 (some g)).trans hg2) (fun e => HNA.out (by injection e)))
        have HO2 := Lib.hid hown2
        have HB2 : Hid (Below w.heap.size w wt) := Lib.hid (HB1.out.grown ((g_drew ws 1 (some g)).trans hg2) HB1.out.size (fun k e => by injection e with e; subst e; exact HO1.out.lt.1))
        have HNA2 : Hid (gA ≠ g2) := Lib.hid (by
          rcases hat with e | e
          · rw [e]; exact HNA.out
          · have := HA1.out.lt
            have e2 : (ws.drewN 1).heap.size = ws.heap.size := rfl
            omega)
        have HL2 := Lib.hid hL2
        have HN : Hid (KPInv w ((wt.setCell ⟨gA, 0, none⟩ (.int .i64 (T : Int))).setCell ⟨gA, 1, none⟩ (.int .i64 v)) l 1 s gA (T : Int) v g2 cap3 (d ++ bytesOf [T, Z])) := Lib.hid (HNX.out _ g2 cap3 (HO2.out.grown (g_two wt gA _ _) (fun e => HNA2.out (by injection e with e; exact e.symm))) (HB2.out.grown (g_two wt gA _ _) HB2.out.size (fun k e => by injection e with e; subst e; exact HBA.out)) HNA2.out (HA2.out.set _ _))
        obtain ⟨a0, a1, a2, a3⟩ := HA2.out
        obtain ⟨s0, s1, s2, s3⟩ := HS2.out
        clear hS2 hL2 hown2 hg2 hat cz0 cz1 HST MA HNX
        go_wp2
        go_roundw
        case rel => exact ⟨1, s, (T : Int), v, g2, cap3, L2, _, by omega, rfl, rfl, by go_num, HL2, HN⟩
        case measure => simp [intOf]; omega
      | i + 1, hlt, hi, HI =>
        have hr1 := HOK.out.1 (i + 1) (by rw [HL.out]; exact hlt)
        have hr0 := HOK.out.1 i (by rw [HL.out]; omega)
        have hup := hr1.2 (by omega)
        have hb1 := hr1.1
        have hb0 := hr0.1
        rw [Nat.add_sub_cancel] at hup
        unfold tAt at hup hb1 hb0
        have hin1 := HS.out.1 (l.getD (i + 1) (0, 0)) (sample_mem (by rw [HL.out]; exact hlt))
        have hin0 := HS.out.1 (l.getD i (0, 0)) (sample_mem (by rw [HL.out]; omega))
        have hnx := sFrom_next (l := l) (i := i) (s := s) (by rw [HL.out]; exact hlt)
        have hah := HI.out.is (by omega)
        rw [Nat.add_sub_cancel] at hah
        have hsh := HS.out.below HI.out.below
        have hcc : wr.cell? ⟨b, off + (i + 1) * 2, none⟩ = some (.int .i64 (l.getD (i + 1) (0, 0)).1) ∧ wr.cell? ⟨b, off + (i + 1) * 2 + 1, none⟩ = some (.int .i64 (l.getD (i + 1) (0, 0)).2) := by
          obtain ⟨b', o', e, hcc⟩ := hsh.2 (by rw [HL.out]; omega)
          injection e with e
          injection e with e1 e2
          subst e1 e2
          exact hcc (i + 1) (by rw [HL.out]; exact hlt)
        rw [← hah] at hup hb0 hin0 hnx
        have HX1 : Hid (∀ ta va : Int, (ta, va) = l.getD (i + 1) (0, 0) → 0 < i + 2 → (ta, va) = l.getD (i + 2 - 1) (0, 0)) := Lib.hid (fun _ _ e _ => e)
        generalize l.getD (i + 1) (0, 0) = x1 at *
        obtain ⟨t1, v1⟩ := x1
        simp only at hup hb1 hb0 hin1 hin0 hnx hcc
        obtain ⟨c0, c1⟩ := hcc
        have hst := HI.out.step
        unfold Ag.begin_ at hb1 hb0
        obtain ⟨dt, hdt⟩ : ∃ dt, t1 - ta = dt := ⟨_, rfl⟩
        obtain ⟨D, hD⟩ : ∃ D, w64 (v1 - va) = D := ⟨_, rfl⟩
        have hD64 : In64 D := hD ▸ w64_in _
        have hdd : In64 (dt - s) := by unfold In64; omega
        obtain ⟨y1, y2⟩ := zig_nat hdd
        obtain ⟨z1, z2⟩ := zig_nat hD64
        have m2 := fun w => zig_any (dt - s) w hdd.1 hdd.2
        have m3 := fun w => zig_any D w hD64.1 hD64.2
        rw [hdt, hD] at hnx
        generalize (zig (dt - s)).toNat = Y at *
        generalize (zig D).toNat = Z at *
        rw [← y1] at m2
        rw [← z1] at m3
        have hwd : IntKind.i64.wrap (t1 - ta) = dt := by rw [IntKind.wrap_i64]; omega
        have hwv : IntKind.i64.wrap (v1 - va) = D := by rw [IntKind.wrap_i64, ← hD]; rfl
        obtain ⟨DS, hDS⟩ : ∃ DS, dt - s = DS := ⟨_, rfl⟩
        have hws : IntKind.i64.wrap (dt - s) = DS := by rw [IntKind.wrap_i64, ← hDS]; unfold In64 at hdd; omega
        rw [hDS] at m2
        have M2 := Lib.hid m2
        have M3 := Lib.hid m3
        have HNX : Hid (∀ wa g2 cap3, ownB wa w.heap.size g2 cap3 (d ++ bytesOf [Y, Z]) → Below w.heap.size w wa → gA ≠ g2 → SVar wa gA t1 v1 → KPInv w wa l (i + 2) dt gA t1 v1 g2 cap3 (d ++ bytesOf [Y, Z])) := Lib.hid (fun wa g2 cap3 h1 h2 h3 h4 => by
          refine ⟨?_, ?_, h1, h2, by omega, fun h => absurd h (by omega), HI.out.base, h3, h4, HX1.out _ _ rfl⟩
          · rw [HI.out.says, hnx, bytesOf_cons, bytesOf_cons]
            simp [bytesOf]
          · have := HI.out.len
            have := enc_len_le y2
            have := enc_len_le z2
            simp only [List.length_append, bytesOf, List.flatMap_cons, List.flatMap_nil, List.length_nil]
            omega)
        have hLe : L ≤ 5000 := by have := HI.out.len; have := HLD.out; omega
        have HO1 := Lib.hid (HI.out.own.grown (g_all wr (.cells #[.int .i64 t1, .int .i64 v1] 48) none) (by simp))
        have HB1 := Lib.hid (past_alloc HI.out.below (.cells #[.int .i64 t1, .int .i64 v1] 48))
        have HA1 := Lib.hid (HI.out.ah.grown (g_all wr (.cells #[.int .i64 t1, .int .i64 v1] 48) none) (by simp))
        have HSV := Lib.hid (SVar.new wr t1 v1)
        have HNG : Hid (wr.heap.size ≠ g ∧ wr.heap.size ≠ gA) := Lib.hid ⟨by have := HI.out.own.lt; omega, by have := HI.out.ah.lt; omega⟩
        have HNA := Lib.hid HI.out.ne
        have HBA := Lib.hid HI.out.base
        obtain ⟨a0, a1, _, _⟩ := HA1.out
        have HY2 := Lib.hid y2
        have HZ2 := Lib.hid z2
        have i1 : ((i : Int) + 1) < (n : Int) := by omega
        have i2 : (0 : Int) ≤ (i : Int) + 1 := by omega
        have i3 : ((i : Int) + 1).toNat = i + 1 := by omega
        have i4 : (((i : Int) + 1) == 0) = false := by simp; omega
        clear hr1 hr0 hup hb1 hb0 hin1 hin0 hnx hst hdt hD hD64 hdd y1 y2 z1 z2 m2 m3 hDS hsh hah HX1 HI
        go_upto_region 13 with fail
        generalize wr.alloc (.cells #[.int .i64 t1, .int .i64 v1] 48) = ws at *
        generalize wr.heap.size = gs at *
        clear c0 c1 a0 a1
        have HST : Hid (∀ w' row, ws.grownBy w' row → some gs ≠ row → some gA ≠ row → w'.cell? ⟨gs, 1, none⟩ = some (.int .i64 v1) ∧ w'.cell? ⟨gA, 1, none⟩ = some (.int .i64 va)) := Lib.hid (fun w' row h1 h2 h3 => ⟨(HSV.out.grown h1 h2).c1, (HA1.out.grown h1 h3).c1⟩)
        have MA : Hid (∀ u : World, ws.grownBy u none → Calls Tryz.prog 78 #[.slice (some ⟨g, 0, none⟩) L cap2, .slice (some ⟨u.heap.size, 0, none⟩) 2 2] (u.alloc (.cells #[.int .u64 (Y : Int), .int .u64 (Z : Int)] 53)) (AddTo u w.heap.size g d [Y, Z])) := Lib.hid (fun u hu => add_two w.heap.size g cap2 L d Y Z u (HO1.out.grown hu (by simp)) HLD.out HY2.out HZ2.out hLe (Nat.le_trans HB1.out.size hu.size))
        obtain ⟨cz0, cz1⟩ := HST.out ws none (grown_of (Below.refl ws.heap.size ws) none) (by simp) (by simp)
        go_region_held3 (fun w' => w'.cell? ⟨gs, 1, none⟩ = some (.int .i64 v1) ∧ w'.cell? ⟨gA, 1, none⟩ = some (.int .i64 va))
          (first
            | exact hS2
            | exact HST.out _ none (g_drew ws 1 none) (by simp) (by simp)
            | exact HST.out _ none ((g_drew ws 1 none).trans (g_all _ _ none)) (by simp) (by simp)
            | exact HST.out _ none (grown_of (Below.refl _ _) none) (by simp) (by simp))
          (first
            | (go_at_call_of 79 (Value.int .i64 DS); refine (M2.out _).mono ?_; rintro e wt ⟨rfl, rfl⟩)
            | (go_at_call_of 79 (Value.int .i64 D); refine (M3.out _).mono ?_; rintro e wt ⟨rfl, rfl⟩)
            | (go_at_call 78; refine (MA.out _ (g_drew ws 1 none)).mono ?_; rintro e wt ⟨g2, cap3, L2, rfl, hL2, hown2, hg2, hat⟩; have hS2 := HST.out wt (some g) ((g_drew ws 1 (some g)).trans hg2) (fun e => HNG.out.1 (by injection e)) (fun e => HNA.out (by injection e))))
        have HS2 := Lib.hid (HSV.out.grown ((g_drew ws 1 (some g)).trans hg2) (fun e => HNG.out.1 (by injection e)))
        have HA2 := Lib.hid (HA1.out.grown ((g_drew ws 1 (some g)).trans hg2) (fun e => HNA.out (by injection e)))
        have HO2 := Lib.hid hown2
        have HB2 : Hid (Below w.heap.size w wt) := Lib.hid (HB1.out.grown ((g_drew ws 1 (some g)).trans hg2) HB1.out.size (fun k e => by injection e with e; subst e; exact HO1.out.lt.1))
        have HNA2 : Hid (gA ≠ g2) := Lib.hid (by
          rcases hat with e | e
          · rw [e]; exact HNA.out
          · have := HA1.out.lt
            have e2 : (ws.drewN 1).heap.size = ws.heap.size := rfl
            omega)
        have HL2 := Lib.hid hL2
        have HN : Hid (KPInv w ((wt.setCell ⟨gA, 0, none⟩ (.int .i64 t1)).setCell ⟨gA, 1, none⟩ (.int .i64 v1)) l (i + 2) dt gA t1 v1 g2 cap3 (d ++ bytesOf [Y, Z])) := Lib.hid (HNX.out _ g2 cap3 (HO2.out.grown (g_two wt gA _ _) (fun e => HNA2.out (by injection e with e; exact e.symm))) (HB2.out.grown (g_two wt gA _ _) HB2.out.size (fun k e => by injection e with e; subst e; exact HBA.out)) HNA2.out (HA2.out.set _ _))
        obtain ⟨a0, a1, a2, a3⟩ := HA2.out
        obtain ⟨s0, s1, s2, s3⟩ := HS2.out
        clear hS2 hL2 hown2 hg2 hat cz0 cz1 HST MA HNX hwd hwv hws
        go_wp2
        go_roundw
        case rel => exact ⟨i + 2, dt, t1, v1, g2, cap3, L2, _, by omega, rfl, rfl, by go_num, HL2, HN⟩
        case measure => simp [intOf]; omega
    · obtain rfl : i = n := by omega
      have HF : Hid (PutBPost w (putB l) (.returned (.tuple #[.slice (some ⟨g, 0, none⟩) L cap2, .int .i64 0])) wr) := Lib.hid (by
        have h3 : sFrom l i s = [] := by
          by_cases h0 : 0 < i
          · have := sFrom_end (l := l) (s := s) (Nat.le_refl _) (by have := HL.out; omega)
            rw [HL.out] at this
            exact this
          · have : i = 0 := by omega
            have h4 : l = [] := List.eq_nil_of_length_eq_zero (by have := HL.out; omega)
            rw [this, h4]
            rfl
        have e2 := HI.out.says
        rw [h3] at e2
        simp only [bytesOf, List.flatMap_nil, List.append_nil] at e2
        rw [e2]
        exact ⟨g, cap2, by rw [HLD.out], HI.out.own, HI.out.below⟩)
      go_wp2
      (try rw [Exit.noGoto_ret])
      go_ret2
      exact HF.out

set_option maxRecDepth 100000 in
theorem kput_none (A : Option Addr) (cap : Nat) (w : World) (hm : cap ≤ maxLen) :
    Calls Tryz.prog 52 #[.slice A 0 cap] w (PutBPost w (putB [])) := by
  have m0 := fun w => rising_none A cap w
  have M0 := Lib.hid m0
  have M1 : Hid (∀ w, Calls Tryz.prog 22 #[.int .u64 0] w (PutPost 0 w)) := Lib.hid (fun w => put_any 0 w (by decide))
  have HP : Hid (putB [] = enc 0) := Lib.hid (by simp [putB, sNums, bytesOf])
  rw [HP.out]
  clear m0 hm
  go_enter Tryz.func52, Tryz.ntmps52
  go_wp2
  go_step3
  go_wp2_with fail
  refine (M0.out _).mono ?_
  rintro e w1 ⟨rfl, hb1⟩
  have HB1 := Lib.hid hb1
  clear hb1
  go_wp2_with fail
  refine (M1.out _).mono ?_
  rintro e w2 ⟨g0, cap0, rfl, hown2, hb2⟩
  have HF : Hid (PutBPost w (enc 0) (.returned (.tuple #[.slice (some ⟨g0, 0, none⟩) (enc 0).length cap0, .int .i64 0])) (w2.alloc (.cells #[.int .i64 0, .int .i64 0] 48))) := Lib.hid (by
    have hB := past HB1.out hb2
    have ho : ownB w2 w.heap.size g0 cap0 (enc 0) := by
      unfold ownB
      refine ⟨hown2.1, ?_⟩
      rcases hown2.2 with h | ⟨g, cap, cur, e, hg, r⟩
      · exact Or.inl h
      · exact Or.inr ⟨g, cap, cur, e, Nat.le_trans HB1.out.size hg, r⟩
    exact ⟨g0, cap0, rfl, ho.grown (g_all _ _ none) (by simp), past_alloc hB _⟩)
  clear hb2 hown2
  generalize (enc 0).length = E0 at *
  go_wp2
  go_step3
  go_wp2
  refine wp_loop_rounds 1 ?_
  rw [rounds_succ]
  go_wp2
  (try rw [Exit.noGoto_ret])
  go_ret2
  exact HF.out

set_option maxRecDepth 100000 in
theorem kput_not {A : Option Addr} {len cap : Nat} {l : List (Int × Int)} {w : World} (hl : l.length = len) (hS : Samps w A l) (hc : len ≤ cap) (hm : cap ≤ maxLen) (h : ¬ BOk l) :
    Calls Tryz.prog 52 #[.slice A len cap] w fun e w' => e = .returned (.tuple #[.slice none 0 0, .int .i64 1]) ∧ Below w.heap.size w w' := by
  have m0 := rising_any hl hS hc hm
  by_cases h64 : 64 < len
  · have h64i : (64 : Int) < (len : Int) := by omega
    clear m0 h hS hl hc hm
    go_enter Tryz.func52, Tryz.ntmps52
    go_wp2
    go_step3
    go_wp2
    (try rw [Exit.noGoto_ret])
    go_ret2
    exact ⟨rfl, Below.refl _ _⟩
  · have h64i : ¬ (64 : Int) < (len : Int) := by omega
    have hr : ¬ Rise l := fun hr => h ⟨hr, by omega⟩
    rw [decide_eq_false hr] at m0
    have M0 := Lib.hid m0
    clear m0 hr h hS hl hc hm
    go_enter Tryz.func52, Tryz.ntmps52
    go_wp2
    go_step3
    go_wp2_with fail
    refine M0.out.mono ?_
    rintro e w1 ⟨rfl, hb1⟩
    have HB1 := Lib.hid hb1
    clear hb1
    go_wp2
    (try rw [Exit.noGoto_ret])
    go_ret2
    exact ⟨rfl, HB1.out⟩

theorem kput_any {A : Option Addr} {len cap : Nat} {l : List (Int × Int)} {w : World} (hl : l.length = len) (hS : Samps w A l) (hc : len ≤ cap) (hm : cap ≤ maxLen) (h : BOk l) :
    Calls Tryz.prog 52 #[.slice A len cap] w (PutBPost w (putB l)) := by
  by_cases h0 : 0 < len
  · obtain ⟨b, off, rfl, _⟩ := hS.2 (by omega)
    exact kput_in b off len cap l w hl hS hc hm h
  · obtain rfl : len = 0 := by omega
    obtain rfl : l = [] := List.eq_nil_of_length_eq_zero hl
    exact kput_none A cap w hm
end Go.Proofs.YtepancmkopifpaaGreatDoor
