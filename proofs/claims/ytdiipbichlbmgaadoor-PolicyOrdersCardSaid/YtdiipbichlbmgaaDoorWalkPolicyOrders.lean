/-
  The walk of PolicyOrders: it returns true, and writes nothing that was there.
-/
import Derived.Test.YtdiipbichlbmgaaDoorPTold
import Derived.Test.YtdiipbichlbmgaaDoorPOrd
import Derived.Deep.RegionLawGrows
namespace Go.Proofs.YtdiipbichlbmgaaDoor.policyOrders
open Go.RowKit
set_option linter.unusedVariables false

theorem ba_app (a b : List UInt8) : (⟨a.toArray⟩ ++ ⟨b.toArray⟩ : ByteArray) = ⟨(a ++ b).toArray⟩ := by
  apply ByteArray.ext
  simp
theorem wrap_u64_rem {a : Int} (m : Int) (hm : 0 < m) : ∃ x : Nat, (IntKind.u64.wrap a).tmod m = (x : Int) ∧ (x : Int) < m := by
  have h0 : 0 ≤ IntKind.u64.wrap a := by rw [IntKind.wrap_u64]; omega
  have h1 := Int.tmod_nonneg m h0
  have h2 := Int.tmod_lt_of_pos (IntKind.u64.wrap a) hm
  exact ⟨((IntKind.u64.wrap a).tmod m).toNat, by omega, by omega⟩
def lnV (l : List Nat) : List Value := l.map fun j => .string ⟨(lineAt j).toArray⟩
theorem addr_add (b off j : Nat) : ((⟨b, off, none⟩ : Addr).add j) = ⟨b, off + j, none⟩ := by simp [Addr.add]
theorem lnV_length (l : List Nat) : (lnV l).length = l.length := by simp [lnV]
theorem lnV_get (l : List Nat) (j : Nat) (h : j < l.length) : (lnV l)[j]? = some (.string ⟨(lineAt (l.getD j 0)).toArray⟩) := by
  simp [lnV, h]
theorem lnV_one (l : List Nat) : ∀ u ∈ lnV l, u.oneCell' = true := by
  intro u hu
  obtain ⟨x, _, rfl⟩ := List.mem_map.1 hu
  rfl
/-- The slice v reads as the lines r. -/
structure ORow (w : World) (g cap : Nat) (r : List Nat) : Prop where
  le : r.length ≤ cap
  max : cap ≤ maxLen
  cell : ∀ j, j < r.length → w.cell? ⟨g, j, none⟩ = some (.string ⟨(lineAt (r.getD j 0)).toArray⟩)
theorem ORow.below {w w' : World} {g cap : Nat} {r : List Nat} (h : ORow w g cap r) (hb : Below w.heap.size w w') : ORow w' g cap r :=
  ⟨h.le, h.max, fun j hj => by rw [hb.cell (World.block_lt_of_cell? w _ (h.cell j hj))]; exact h.cell j hj⟩

structure OInv (w wr : World) (gl K k : Nat) (d r : List Nat) (S : ByteArray) (g cap c m : Nat) : Prop where
  env : TEnv w wr
  ll : ORow wr gl 4 [0, 1, 2, 3]
  row : ORow wr g cap r
  says : order 4 K [0, 1, 2, 3] = d ++ order m k r
  dl : d.length = c
  rl : r.length = m
  len : c + m = 4
  txt : S = ⟨(text d).toArray⟩
  kb : k ≤ K
theorem order_step {m k : Nat} {r : List Nat} (h : r.length = m + 1) : order (m + 1) k r = r.getD (k % (m + 1)) 0 :: order m (k / (m + 1)) (r.eraseIdx (k % (m + 1))) := by
  rw [order, if_neg (by intro e; rw [e] at h; cases h), h]

set_option maxRecDepth 100000 in
set_option maxHeartbeats 1000000 in
theorem walk (a0 a1 : Int) (w : World) (w0 : (Lit.int .i64 a0).wf = true) (w1 : (Lit.int .i64 a1).wf = true) (hw : Nam w) (hT : Pow w) (hn : 0 < w.heap.size) :
    Calls Tryd.prog 5 #[.int .i64 a0, .int .i64 a1] w fun e w' => e = .returned (.bool true) ∧ Below w.heap.size w w' := by
  obtain ⟨i0, hi, hz0, hz1, hz2⟩ := info_parts Tryd.info9
  obtain ⟨K, hK, hK1⟩ : ∃ K : Nat, IntKind.u64.wrap a0 = (K : Int) ∧ (K : Int) < 18446744073709551616 := by
    have h : 0 ≤ IntKind.u64.wrap a0 ∧ IntKind.u64.wrap a0 < 18446744073709551616 := by rw [IntKind.wrap_u64]; omega
    exact ⟨(IntKind.u64.wrap a0).toNat, by omega, by omega⟩
  have HE : Hid (TEnv w w) := Lib.hid ⟨hw, hT, hn, Below.refl _ _⟩
  have HK1 := Lib.hid hK1
  clear hw hT hn w0 w1 hK1
  go_enter Tryd.func5, Tryd.ntmps5
  have HW : Hid (TEnv w (w.alloc (.cells #[.string ⟨#[107, 101, 101, 112, 32, 114, 97, 119, 32, 49, 48]⟩, .string ⟨#[107, 101, 101, 112, 32, 53, 109, 32, 50, 48]⟩, .string ⟨#[115, 101, 97, 108, 32, 53]⟩, .string ⟨#[115, 112, 97, 110, 32, 57]⟩] 9)) ∧ ORow (w.alloc (.cells #[.string ⟨#[107, 101, 101, 112, 32, 114, 97, 119, 32, 49, 48]⟩, .string ⟨#[107, 101, 101, 112, 32, 53, 109, 32, 50, 48]⟩, .string ⟨#[115, 101, 97, 108, 32, 53]⟩, .string ⟨#[115, 112, 97, 110, 32, 57]⟩] 9)) w.heap.size 4 [0, 1, 2, 3]) := Lib.hid ⟨HE.out.alloc _, by decide, by decide, fun j hj => by
    match j, hj with
    | 0, _ | 1, _ | 2, _ | 3, _ => simp [lineAt]⟩
  go_upto_region 4 with fail
  generalize (w.alloc (.cells #[.string ⟨#[107, 101, 101, 112, 32, 114, 97, 119, 32, 49, 48]⟩, .string ⟨#[107, 101, 101, 112, 32, 53, 109, 32, 50, 48]⟩, .string ⟨#[115, 101, 97, 108, 32, 53]⟩, .string ⟨#[115, 112, 97, 110, 32, 57]⟩] 9)) = ws at *
  generalize w.heap.size = gl at *
  clear HE hK
  have HB4 : Hid (Below ws.heap.size ws (ws.alloc (.cells #[] 9))) := Lib.hid (past_alloc (Below.refl _ _) _)
  have HC4 : Hid (∀ j u, (lnV [0, 1, 2, 3])[j]? = some u → (ws.alloc (.cells #[] 9)).cell? ((⟨gl, 0, none⟩ : Addr).add j) = some u) := Lib.hid (fun j u hj => by
    have hlt : j < [0, 1, 2, 3].length := by have := (List.getElem?_eq_some_iff.1 hj).1; rwa [lnV_length] at this
    rw [lnV_get _ _ hlt] at hj
    rw [addr_add, Nat.zero_add, ← hj]
    exact (HW.out.2.below HB4.out).cell j hlt)
  go_wp2_with (at_builtin; refine wpList_append_grows _ rfl _ _ 36 rfl 9 i0 (.string ⟨#[]⟩) 1 16 Tryd.underlying36 hi hz0 hz1 hz2 rfl (by decide) (some ⟨ws.heap.size, 0, none⟩) 0 0 [] rfl (fun e => by cases e) rfl (fun _ _ j u h => by simp at h) ⟨gl, 0, none⟩ 4 4 (lnV [0, 1, 2, 3]) rfl rfl HC4.out (lnV_one _) (by decide) (by decide) (by decide) ?_)
  intro v' w4 hown hgrow
  have hb4 : Below ws.heap.size ws w4 := HB4.out.grown hgrow HB4.out.size (fun k h => by cases h)
  obtain ⟨g, cap, hv, _, _⟩ := hown.form (by decide)
  rw [hv] at hown
  have HI : Hid (OInv w w4 gl K K [] [0, 1, 2, 3] ⟨#[]⟩ g cap 0 4) := Lib.hid (by
    refine ⟨HW.out.1.on hb4, HW.out.2.below hb4, ⟨?_, ?_, fun j hj => ?_⟩, rfl, rfl, rfl, rfl, rfl, Nat.le_refl _⟩
    · rcases hown.2 with ⟨e, _⟩ | ⟨g', cap', cur, e, _, _, h1, _⟩
      · cases e
      · injection e with e1 e2 e3; subst e3; exact h1
    · rcases hown.2 with ⟨e, _⟩ | ⟨g', cap', cur, e, _, _, _, h2, _⟩
      · cases e
      · injection e with e1 e2 e3; subst e3; exact h2
    · rw [hown.cellAt j (by simpa using hj)]
      exact lnV_get _ _ hj)
  subst hv
  clear hown hgrow hb4 HB4 HC4
  go_wp2
  go_loopw [6, 7, 8, 9] (fun s6 s7 s8 s9 wr => ∃ (x : Int) (k : Nat) (d r : List Nat) (S : ByteArray) (g cap c m : Nat), s6 = .int .u64 x ∧ Hid (x = (k : Int)) ∧ s7 = .string S ∧ s8 = .int .i64 (c : Int) ∧ s9 = .slice (some ⟨g, 0, none⟩) m cap ∧ Hid (OInv w wr gl K k d r S g cap c m)) (fun _ _ s8 _ _ => 4 - (intOf s8).toNat)
  case atStart => exact ⟨(K : Int), K, [], [0, 1, 2, 3], ⟨#[]⟩, g, cap, 0, 4, rfl, Lib.hid rfl, rfl, rfl, rfl, HI⟩
  case round =>
    clear HI HW
    obtain ⟨x, k, d, r, S, g, cap, c, m, rfl, HX, rfl, rfl, rfl, HI⟩ := hrel
    have hcm : c + m = 4 := HI.out.len
    have hc4 : (c : Int) ≤ 4 := by omega
    have hm4 : (m : Int) ≤ 4 := by omega
    have hcap : m ≤ cap := by have := HI.out.row.le; rw [HI.out.rl] at this; exact this
    have HCM := Lib.hid hcm
    have hS : S.size ≤ 500 := by rw [HI.out.txt, ba_size]; have := text_len d; have := HI.out.dl; omega
    clear hcm
    by_cases h0 : 0 < m
    · obtain ⟨i, hi'⟩ : ∃ i, k % m = i := ⟨_, rfl⟩
      obtain ⟨q, hq⟩ : ∃ q, k / m = q := ⟨_, rfl⟩
      have him : i < m := by rw [← hi']; exact Nat.mod_lt _ h0
      have hqk : q ≤ k := by rw [← hq]; exact Nat.div_le_self _ _
      have hx0 : 0 ≤ x := by rw [HX.out]; omega
      have hx1 : x ≤ 18446744073709551615 := by rw [HX.out]; have := HK1.out; have := HI.out.kb; omega
      obtain ⟨y, hy⟩ : ∃ y : Int, (q : Int) = y := ⟨_, rfl⟩
      have HY := Lib.hid hy
      have hr1 : x % (m : Int) = (i : Int) := by rw [HX.out, ← hi']; simp
      have hr2 : x / (m : Int) = y := by rw [HX.out, ← hy, ← hq]; simp
      clear hy
      have hm0 : (0 : Int) < (m : Int) := by omega
      have hm1 : (1 : Int) ≤ (m : Int) := by omega
      have hm1' : 1 ≤ m := by omega
      have hdv : IntKind.u64.wrap (x.tdiv (m : Int)) = y := by rw [IntWalk.u64_quo x m ⟨hx0, hx1, hm1⟩, hr2]
      clear hx1 hr2
      have HS := Lib.hid (And.intro hi' hq)
      have ci := HI.out.row.cell i (by rw [HI.out.rl]; exact him)
      have hj0 : (0 : Int) ≤ (i : Int) := by omega
      have hj5 : (i : Int) < (m : Int) := by omega
      have hll : (⟨(lineAt (r.getD i 0)).toArray⟩ : ByteArray).size ≤ 11 := by rw [ba_size]; exact lineAt_len _
      have HTX : Hid (S ++ ⟨(lineAt (r.getD i 0)).toArray⟩ ++ ⟨#[10]⟩ = ⟨(text (d ++ [r.getD i 0])).toArray⟩) := Lib.hid (by
        rw [HI.out.txt, show (⟨#[10]⟩ : ByteArray) = ⟨[10].toArray⟩ from rfl, ba_app, ba_app, text_snoc])
      clear hi' hq
      generalize (⟨(lineAt (r.getD i 0)).toArray⟩ : ByteArray) = L at *
      go_upto_region 8 with fail
      clear hdv hr1 hx0
      go_upto_region 9 with fail
      have hwr : IntKind.i64.wrap ((i : Int) + 1) = (i : Int) + 1 := by rw [IntKind.wrap_i64]; omega
      have hp0 : (0 : Int) ≤ (i : Int) + 1 := by omega
      have hp1 : (i : Int) + 1 ≤ (m : Int) := by omega
      have hp2 : ((i : Int) + 1).toNat = i + 1 := by omega
      have hp3 : (i : Int) ≤ (cap : Int) := by omega
      have H0 := Lib.hid h0
      have HM63 : Hid (m ≤ maxLen) := Lib.hid (Nat.le_trans hcap HI.out.row.max)
      have HTK : Hid ((lnV (r.take i)).length = i * 1 ∧ (∀ b, some (⟨g, 0, none⟩ : Addr) = some b → ∀ j u, (lnV (r.take i))[j]? = some u → wr.drew.cell? (b.add j) = some u) ∧ (lnV (r.drop (i + 1))).length = (m - (i + 1)) * 1 ∧ (∀ j u, (lnV (r.drop (i + 1)))[j]? = some u → wr.drew.cell? ((⟨g, i + 1, none⟩ : Addr).add j) = some u)) := Lib.hid (by
        have hrl := HI.out.rl
        refine ⟨by rw [lnV_length, List.length_take]; omega, ?_, by rw [lnV_length, List.length_drop]; omega, ?_⟩
        · intro b hb j u hj
          injection hb with hb
          subst hb
          have hlt : j < (r.take i).length := by have := (List.getElem?_eq_some_iff.1 hj).1; rwa [lnV_length] at this
          rw [lnV_get _ _ hlt] at hj
          rw [List.length_take] at hlt
          rw [addr_add, Nat.zero_add, ← hj]
          have := HI.out.row.cell j (by omega)
          rw [List.getD_eq_getElem?_getD, List.getElem?_take_of_lt (by omega), ← List.getD_eq_getElem?_getD]
          exact this
        · intro j u hj
          have hlt : j < (r.drop (i + 1)).length := by have := (List.getElem?_eq_some_iff.1 hj).1; rwa [lnV_length] at this
          rw [lnV_get _ _ hlt] at hj
          rw [List.length_drop] at hlt
          rw [addr_add, ← hj]
          have := HI.out.row.cell (i + 1 + j) (by omega)
          rw [List.getD_eq_getElem?_getD, List.getElem?_drop, ← List.getD_eq_getElem?_getD]
          exact this)
      by_cases hgr : i + 1 < m
      · have hne : ¬ cap = i + 1 := by omega
        go_region_law (refine step_append_grows rfl (.tmp 47) (.tmp 51) 36 rfl 9 i0 (.string ⟨#[]⟩) 1 16 Tryd.underlying36 hi hz0 hz1 hz2 rfl (by decide) (some ⟨g, 0, none⟩) i i (lnV (r.take i)) (by simp [Act.eval, Act.put]) (fun e => by cases e) HTK.out.1 HTK.out.2.1 ⟨g, i + 1, none⟩ (m - (i + 1)) (cap - (i + 1)) (lnV (r.drop (i + 1))) (by simp [Act.eval, Act.put]) HTK.out.2.2.1 HTK.out.2.2.2 (lnV_one _) (by omega) (by have := HM63.out; omega) (by omega) ?_; intro v' w6 hown hgrow)
        have hb6 : Below wr.heap.size wr w6 := (below_drewN wr 1).grown hgrow (Nat.le_refl _) (fun k h => by cases h)
        obtain ⟨g', cap', hv, _, _⟩ := hown.form (by omega)
        rw [hv] at hown
        have HN : Hid (OInv w w6 gl K q (d ++ [r.getD i 0]) (r.eraseIdx i) (S ++ L ++ ⟨#[10]⟩) g' cap' (c + 1) (i + (m - (i + 1)))) := Lib.hid (by
          have hrl := HI.out.rl
          have hel : (r.eraseIdx i).length = i + (m - (i + 1)) := by rw [List.length_eraseIdx_of_lt (by omega)]; omega
          refine ⟨HI.out.env.on hb6, HI.out.ll.below hb6, ⟨?_, ?_, fun j hj => ?_⟩, ?_, by rw [List.length_append, HI.out.dl]; rfl, hel, ?_, HTX.out, Nat.le_trans hqk HI.out.kb⟩
          · rw [hel]
            rcases hown.2 with ⟨e, _⟩ | ⟨_, _, cur, e, _, _, h1, _⟩
            · cases e
            · injection e with e1 e2 e3; subst e3; exact h1
          · rcases hown.2 with ⟨e, _⟩ | ⟨_, _, cur, e, _, _, _, h2, _⟩
            · cases e
            · injection e with e1 e2 e3; subst e3; exact h2
          · rw [hown.cellAt j (by rw [hel] at hj; omega)]
            have e : lnV (r.take i) ++ lnV (r.drop (i + 1)) = lnV (r.eraseIdx i) := by
              rw [List.eraseIdx_eq_take_drop_succ]
              simp [lnV]
            rw [e]
            exact lnV_get _ _ hj
          · rw [HI.out.says]
            have hm' : m = (i + (m - (i + 1))) + 1 := by omega
            have hst := order_step (m := i + (m - (i + 1))) (k := k) (r := r) (by omega)
            rw [← hm', HS.out.1, HS.out.2] at hst
            rw [hst]
            simp
          · have := HCM.out; omega)
        obtain ⟨M, hM⟩ : ∃ M, i + (m - (i + 1)) = M := ⟨_, rfl⟩
        rw [hM] at hv HN
        have HMM := Lib.hid hM
        clear hM
        subst hv
        have hc5 : (c : Int) + 1 ≤ 4 := by have := HCM.out; omega
        clear hown hgrow hb6 HI HTK HTX HS ci hwr hp0 hp1 hp2 hp3 hne hS hll hc4 hm4
        go_upto_region 11 with fail
        have hdec : ((4 : Int) < (c : Int) + 1) = False := eq_false (by have := HCM.out; omega)
        clear hc5 hm0 hm1 hm1' hj0 hj5 hqk him hgr hcap h0
        go_wp2
        go_roundw
        case rel => exact ⟨y, q, d ++ [r.getD i 0], r.eraseIdx i, S ++ L ++ ⟨#[10]⟩, g', cap', c + 1, M, rfl, Lib.hid HY.out.symm, rfl, by go_num, rfl, HN⟩
        case measure => have := HCM.out; have := H0.out; simp [intOf]; omega
      · obtain rfl : m = i + 1 := by omega
        have HN : Hid (OInv w wr.drew gl K q (d ++ [r.getD i 0]) (r.eraseIdx i) (S ++ L ++ ⟨#[10]⟩) g i (c + 1) i) := Lib.hid (by
          have hb6 := below_drewN wr 1
          have hrl := HI.out.rl
          have hel : (r.eraseIdx i).length = i := by rw [List.length_eraseIdx_of_lt (by omega)]; omega
          refine ⟨HI.out.env.on hb6, HI.out.ll.below hb6, ⟨by rw [hel]; exact Nat.le_refl _, Nat.le_trans (by omega) HM63.out, fun j hj => ?_⟩, ?_, by rw [List.length_append, HI.out.dl]; rfl, hel, ?_, HTX.out, Nat.le_trans hqk HI.out.kb⟩
          · rw [hel] at hj
            have := HI.out.row.cell j (by omega)
            rw [List.getD_eq_getElem?_getD, List.getElem?_eraseIdx_of_lt hj, ← List.getD_eq_getElem?_getD]
            exact this
          · rw [HI.out.says]
            have hst := order_step (m := i) (k := k) (r := r) hrl
            rw [HS.out.1, HS.out.2] at hst
            rw [hst]
            simp
          · have := HCM.out; omega)
        have HK2 : Hid (wr.drew.setCells g (0 + i * 1) [] = wr.drew) := Lib.hid rfl
        clear HTK HTX HS ci
        by_cases hce : cap = i + 1
        · obtain rfl : cap = i + 1 := hce
          have hp4 : (i : Int) ≤ (i : Int) + 1 := by omega
          go_region_law (refine step_append_room rfl (.tmp 47) (.tmp 51) 36 rfl 9 i0 1 Tryd.underlying36 hi hz1 g 0 i i (by simp [Act.eval, Act.put]) ⟨g, 0, none⟩ 0 0 [] (by simp [Act.eval, Act.put]) rfl (fun j u h => by simp at h) (by simp) (by omega) (fun j hj => by simp at hj) ?_; rw [HK2.out])
          clear hwr hp0 hp1 hp2 hp3 hS hll hc4 hm4 HI
          have hdec0 : (c : Int) + 1 ≤ 4 := by have := HCM.out; omega
          go_upto_region 11 with fail
          have hdec : ((4 : Int) < (c : Int) + 1) = False := eq_false (by have := HCM.out; omega)
          clear hdec0 hm0 hm1 hm1' hj0 hj5 hqk him hgr hcap h0
          go_wp2
          go_roundw
          case rel => exact ⟨y, q, d ++ [r.getD i 0], r.eraseIdx i, S ++ L ++ ⟨#[10]⟩, g, i, c + 1, i, rfl, Lib.hid HY.out.symm, rfl, by go_num, rfl, HN⟩
          case measure => have := HCM.out; simp [intOf]; omega
        · go_region_law (refine step_append_room rfl (.tmp 47) (.tmp 51) 36 rfl 9 i0 1 Tryd.underlying36 hi hz1 g 0 i i (by simp [Act.eval, Act.put]) ⟨g, i + 1, none⟩ 0 (cap - (i + 1)) [] (by simp [Act.eval, Act.put]) rfl (fun j u h => by simp at h) (by simp) (by omega) (fun j hj => by simp at hj) ?_; rw [HK2.out])
          clear hwr hp0 hp1 hp2 hp3 hS hll hc4 hm4 HI
          have hdec0 : (c : Int) + 1 ≤ 4 := by have := HCM.out; omega
          go_upto_region 11 with fail
          have hdec : ((4 : Int) < (c : Int) + 1) = False := eq_false (by have := HCM.out; omega)
          clear hdec0 hm0 hm1 hm1' hj0 hj5 hqk him hgr hcap h0
          go_wp2
          go_roundw
          case rel => exact ⟨y, q, d ++ [r.getD i 0], r.eraseIdx i, S ++ L ++ ⟨#[10]⟩, g, i, c + 1, i, rfl, Lib.hid HY.out.symm, rfl, by go_num, rfl, HN⟩
          case measure => have := HCM.out; simp [intOf]; omega
    · obtain rfl : m = 0 := by omega
      have hd : order 4 K [0, 1, 2, 3] = d := by rw [HI.out.says]; simp [order]
      have hgood := order_good K
      rw [hd] at hgood
      obtain ⟨t, ht, ht4⟩ := wrap_u64_rem (a := a1) 4 (by decide)
      have ct := HI.out.ll.cell t (by show t < 4; omega)
      have htl : [0, 1, 2, 3].getD t 0 = t := by
        match t, ht4 with
        | 0, _ | 1, _ | 2, _ | 3, _ => rfl
      rw [htl] at ct
      have hlt := lineAt_len t
      have hlL : (⟨(lineAt t).toArray⟩ : ByteArray).size ≤ 11 := by rw [ba_size]; exact hlt
      have htx : (text d).length ≤ 48 := by have := text_len d; have := hgood.2.2; omega
      have N1 : Hid (∀ wr, TEnv w wr → Calls Tryd.prog 11 #[.string S] wr fun e w' => e = .returned (.tuple #[.agg #[.int .i64 10, .int .i64 20, .int .i64 6000, .int .i64 0, .int .i64 5, .int .i64 9], .int .i64 0, .int .i64 0]) ∧ Below wr.heap.size wr w') := Lib.hid (fun wr hE => by
        rw [HI.out.txt]
        exact parse_is hgood.1 (by omega) hE)
      have N2 : Hid (∀ wr, TEnv w wr → Calls Tryd.prog 11 #[.string (S ++ ⟨#[32]⟩ ++ ⟨(lineAt t).toArray⟩ ++ ⟨#[32, 35, 32, 97, 103, 97, 105, 110]⟩)] wr fun e w' => e = .returned (.tuple #[.agg #[.int .i64 0, .int .i64 0, .int .i64 0, .int .i64 0, .int .i64 0, .int .i64 0], .int .i64 4, .int .i64 5]) ∧ Below wr.heap.size wr w') := Lib.hid (fun wr hE => by
        rw [HI.out.txt, show (⟨#[32]⟩ : ByteArray) = ⟨[32].toArray⟩ from rfl, show (⟨#[32, 35, 32, 97, 103, 97, 105, 110]⟩ : ByteArray) = ⟨[32, 35, 32, 97, 103, 97, 105, 110].toArray⟩ from rfl, ba_app, ba_app, ba_app]
        exact parse_is (hgood.2.1 t (by omega)) (by unfold again; simp only [List.length_append, List.length_cons, List.length_nil]; omega) hE)
      have hj0 : (0 : Int) ≤ (t : Int) := by omega
      clear hgood hd htl htx hlt hcap hc4 hm4
      generalize (⟨(lineAt t).toArray⟩ : ByteArray) = L at *
      have HLT : Hid (gl < wr.heap.size) := Lib.hid (World.block_lt_of_cell? wr _ ct)
      go_wp2_with fail
      refine (N1.out _ HI.out.env).mono ?_
      rintro e w5 ⟨rfl, hb5⟩
      have HI5 : Hid (TEnv w (w5.alloc (.cells #[.int .i64 10, .int .i64 20, .int .i64 6000, .int .i64 0, .int .i64 5, .int .i64 9] 25)) ∧ PHold (w5.alloc (.cells #[.int .i64 10, .int .i64 20, .int .i64 6000, .int .i64 0, .int .i64 5, .int .i64 9] 25)) w5.heap.size ⟨10, 20, 6000, 0, 5, 9⟩ ∧ w5.heap.size < (w5.alloc (.cells #[.int .i64 10, .int .i64 20, .int .i64 6000, .int .i64 0, .int .i64 5, .int .i64 9] 25)).heap.size) := Lib.hid ⟨HI.out.env.on (past_alloc hb5 _), by unfold PHold; simp, by simp⟩
      have ct5 : (w5.alloc (.cells #[.int .i64 10, .int .i64 20, .int .i64 6000, .int .i64 0, .int .i64 5, .int .i64 9] 25)).cell? ⟨gl, t, none⟩ = some (.string L) := by rw [(past_alloc hb5 _).cell HLT.out]; exact ct
      clear hb5 N1 ct
      go_upto_region 14 with fail
      generalize (w5.alloc (.cells #[.int .i64 10, .int .i64 20, .int .i64 6000, .int .i64 0, .int .i64 5, .int .i64 9] 25)) = w6 at *
      generalize w5.heap.size = g11 at *
      go_wp2_with fail
      refine (N2.out _ HI5.out.1).mono ?_
      rintro e w7 ⟨rfl, hb7⟩
      have HI7 : Hid (TEnv w (w7.alloc (.cells #[.int .i64 0, .int .i64 0, .int .i64 0, .int .i64 0, .int .i64 0, .int .i64 0] 25)) ∧ PHold (w7.alloc (.cells #[.int .i64 0, .int .i64 0, .int .i64 0, .int .i64 0, .int .i64 0, .int .i64 0] 25)) g11 ⟨10, 20, 6000, 0, 5, 9⟩ ∧ g11 < (w7.alloc (.cells #[.int .i64 0, .int .i64 0, .int .i64 0, .int .i64 0, .int .i64 0, .int .i64 0] 25)).heap.size) := Lib.hid (by
        have hba := past_alloc hb7 (.cells #[.int .i64 0, .int .i64 0, .int .i64 0, .int .i64 0, .int .i64 0, .int .i64 0] 25)
        exact ⟨HI5.out.1.on hba, HI5.out.2.1.below HI5.out.2.2 hba, Nat.lt_of_lt_of_le HI5.out.2.2 hba.size⟩)
      clear hb7 N2 HI5 ct5
      go_upto_region 15 with fail
      generalize (w7.alloc (.cells #[.int .i64 0, .int .i64 0, .int .i64 0, .int .i64 0, .int .i64 0, .int .i64 0] 25)) = w8 at *
      have HA : Hid (∀ u : SubB w8, PHold u.w g11 ⟨10, 20, 6000, 0, 5, 9⟩ ∧ TEnv w u.w) := Lib.hid (fun u => ⟨HI7.out.2.1.below HI7.out.2.2 u.le, HI7.out.1.on u.le⟩)
      have D0 : ∀ u : SubB w8, u.w.cell? ⟨g11, 0, none⟩ = some (.int .i64 10) := fun u => (HA.out u).1.1
      have D1 : ∀ u : SubB w8, u.w.cell? ⟨g11, 1, none⟩ = some (.int .i64 20) := fun u => (HA.out u).1.2.1
      have D2 : ∀ u : SubB w8, u.w.cell? ⟨g11, 2, none⟩ = some (.int .i64 6000) := fun u => (HA.out u).1.2.2.1
      have D4 : ∀ u : SubB w8, u.w.cell? ⟨g11, 4, none⟩ = some (.int .i64 5) := fun u => (HA.out u).1.2.2.2.2.1
      have D5 : ∀ u : SubB w8, u.w.cell? ⟨g11, 5, none⟩ = some (.int .i64 9) := fun u => (HA.out u).1.2.2.2.2.2
      have M0 : Hid (∀ u : SubB w8, Calls Tryd.prog 9 #[] u.w fun e w' => e = .returned (.bool true) ∧ Below u.w.heap.size u.w w') := Lib.hid (fun u => told_any u.w (HA.out u).2.nam (HA.out u).2.pow (HA.out u).2.pos)
      have M1 : Hid (∀ w, Calls Tryd.prog 7 #[] w fun e w' => e = .returned (.agg #[.int .i64 60, .int .i64 600, .int .i64 6000, .int .i64 0, .int .i64 8, .int .i64 30]) ∧ Below w.heap.size w w') := Lib.hid (fun w => default_any w)
      have ix : ∀ w, (Instr.index 23 (.agg #[.int .i64 60, .int .i64 600, .int .i64 6000, .int .i64 0]) (.int .i64 2)).run Tryd.prog w = .ok (.int .i64 6000) w := fun w => by kernel_rfl
      have fx : ∀ w, (Instr.field 25 (.agg #[.int .i64 60, .int .i64 600, .int .i64 6000, .int .i64 0, .int .i64 8, .int .i64 30]) 0).run Tryd.prog w = .ok (.agg #[.int .i64 60, .int .i64 600, .int .i64 6000, .int .i64 0]) w := fun w => by kernel_rfl
      clear HA
      refine wp_region_calm (by kernel_rfl) (by kernel_rfl) ?_
      (try simp only [List.append])
      repeat (go_big_quiet_step ((first | (go_at_call 9; exact calm_call (M0.out _)) | (go_at_call 7; exact calm_call (M1.out _)))))
      refine wpQuiet_nil ?_
      rintro _ ⟨u, rfl⟩
      clear D0 D1 D2 D4 D5 ix fx
      go_wp2
      (try rw [Exit.noGoto_ret])
      go_ret
      exact ⟨rfl, past HI7.out.1.below u.le⟩
end Go.Proofs.YtdiipbichlbmgaaDoor.policyOrders
