/-
  The walk of VaryBack: it returns true, and writes nothing that was there.
-/
import Derived.Test.YtimopggllnfibaaArgs
import Derived.Laws.AppendOwnNone
import Derived.Deep.DeepCutAuto
namespace Go.Proofs.Ytimopggllnfibaa.varyBack
open Go.RowKit

/-- The bytes of numbers, one behind the other. -/
def encs (ns : List Nat) : List Nat := ns.flatMap enc
theorem encs_byte (ns : List Nat) : ∀ c ∈ encs ns, c < 256 := by
  intro c hc
  obtain ⟨n, _, h⟩ := List.mem_flatMap.1 hc
  exact enc_byte n c h
theorem encs_snoc (ns : List Nat) (n : Nat) : encs (ns ++ [n]) = encs ns ++ enc n := by simp [encs]
theorem encs_len (ns : List Nat) (h : ∀ n ∈ ns, n < 18446744073709551616) : (encs ns).length ≤ 10 * ns.length := by
  induction ns with
  | nil => simp [encs]
  | cons n r ih =>
    have h1 := ih fun m hm => h m (by simp [hm])
    have h2 := enc_len_le (h n (by simp))
    simp only [encs, List.flatMap_cons, List.length_append, List.length_cons] at h1 ⊢
    omega
theorem take_snoc {ns : List Nat} {k : Nat} (h : k < ns.length) : ns.take (k + 1) = ns.take k ++ [ns.getD k 0] := by
  rw [List.take_succ_eq_append_getElem h]; simp [h]
theorem encs_take {ns : List Nat} {k : Nat} (h : k < ns.length) : encs (ns.take (k + 1)) = encs (ns.take k) ++ enc (ns.getD k 0) := by
  rw [take_snoc h, encs_snoc]
theorem encs_drop {ns : List Nat} {k : Nat} (h : k < ns.length) (bs : List Nat) :
    (bs ++ encs ns).drop (bs ++ encs (ns.take k)).length = enc (ns.getD k 0) ++ encs (ns.drop (k + 1)) := by
  have e : encs ns = encs (ns.take k) ++ (enc (ns.getD k 0) ++ encs (ns.drop (k + 1))) := by
    have h1 : ns = ns.take k ++ (ns.getD k 0 :: ns.drop (k + 1)) := by
      rw [← drop_at h, List.take_append_drop]
    conv => lhs; rw [h1]
    simp [encs]
  rw [e, ← List.append_assoc]
  exact List.drop_left

theorem encs_take_le (ns : List Nat) (k : Nat) : (encs (ns.take k)).length ≤ (encs ns).length := by
  have e : encs ns = encs (ns.take k) ++ encs (ns.drop k) := by unfold encs; rw [← List.flatMap_append, List.take_append_drop]
  rw [e, List.length_append]
  omega

/-- A slice of numbers without a sign that came in. -/
theorem nums_of_row {w : World} {a : Option Addr} {len cap : Nat} {zs : List Int} (h : IsRow .u64 w a len cap zs) :
    ∃ ns : List Nat, ns.length = len ∧ (∀ n ∈ ns, n < 18446744073709551616) ∧
      (0 < len → ∃ b off, a = some ⟨b, off, none⟩ ∧ b < w.heap.size ∧ ∀ j, j < len → w.cell? ⟨b, off + j, none⟩ = some (.int .u64 ((ns.getD j 0 : Nat) : Int))) := by
  rcases h with ⟨rfl, rfl, rfl, rfl⟩ | ⟨⟨b, off, spot⟩, rfl, h1, h2, h3, hc, hw⟩
  · exact ⟨[], rfl, by simp, fun h => absurd h (by decide)⟩
  · refine ⟨(zs.take len).map Int.toNat, by simp; omega, ?_, fun hp => ?_⟩
    · intro c hcm
      obtain ⟨z, hz, rfl⟩ := List.mem_map.1 hcm
      have := fits_u64 (hw z (List.mem_of_mem_take hz))
      omega
    · have h0 := hc 0 (by omega)
      have hs : spot = none := by simpa [Addr.add] using World.cell?_spot h0
      subst hs
      refine ⟨b, off, rfl, World.block_lt_of_cell? w _ h0, fun j hj => ?_⟩
      have hjz : j < zs.length := by omega
      have := hc j hjz
      have ea : (⟨b, off, none⟩ : Addr).add j = ⟨b, off + j, none⟩ := by
        unfold Addr.add; split
        · next e => rw [e]; rfl
        · rfl
      rw [ea] at this
      rw [this]
      have hm : zs.getD j 0 ∈ zs := by
        have e : zs.getD j 0 = zs[j] := by simp [hjz]
        rw [e]; exact List.getElem_mem hjz
      have hf := fits_u64 (hw _ hm)
      congr 2
      have e : ((zs.take len).map Int.toNat).getD j 0 = (zs.getD j 0).toNat := by simp [hj, hjz]
      rw [e]
      omega

theorem own_any {w : World} {base n : Nat} {v : Value} {bs : List Nat} (h : w.ownsRow base 5 1 v n (bytesV bs)) (hb : ∀ c ∈ bs, c < 256) :
    ∃ A cap, v = .slice A n cap ∧ Bytes w A bs ∧ bs.length = n ∧ n ≤ cap ∧ cap ≤ maxLen := by
  have hn : bs.length = n := by have := h.1; rw [bytesV_length] at this; omega
  rcases h.2 with ⟨rfl, rfl⟩ | ⟨g, cap, cur, rfl, _⟩
  · exact ⟨none, 0, rfl, ⟨hb, fun hp => absurd hp (by omega)⟩, hn, by decide, by decide⟩
  · have := Bytes.own h hb
    exact ⟨_, cap, rfl, this.1, hn, this.2.2.1, this.2.2.2.1⟩

theorem own_below {w w' : World} {base n : Nat} {v : Value} {xs : List Value} (h : w.ownsRow base 5 1 v n xs) (hb : Below w.heap.size w w') : w'.ownsRow base 5 1 v n xs :=
  h.kept (row := none) ⟨hb.os, hb.tape, hb.output, hb.size, fun k hk _ => hb.block k hk⟩ (by cases v.ownBlock <;> simp)

set_option maxRecDepth 100000 in
set_option maxHeartbeats 1000000 in
theorem walk (a0 : Option Addr) (len0 cap0 : Nat) (z0 : List Int) (a1 : Option Addr) (len1 cap1 : Nat) (z1 : List Int) (w : World) (w0 : IsRow .u64 w a0 len0 cap0 z0) (w1 : IsRow .u8 w a1 len1 cap1 z1) :
    Calls Try.prog 5 #[.slice a0 len0 cap0, .slice a1 len1 cap1] w fun e w' => e = .returned (.bool true) ∧ Below w.heap.size w w' := by
  obtain ⟨ns, hnl, hn64, hnc⟩ := nums_of_row w0
  have HNL := Lib.hid hnl
  have HN := Lib.hid hn64
  have HNC := Lib.hid hnc
  clear w0 hnl hn64 hnc
  by_cases h20 : 20 < len0
  · go_enter Try.func5, Try.ntmps5
    go_wp2_with fail
    refine (told_any _).mono ?_
    rintro e wt ⟨rfl, hbt⟩
    go_wp2
    go_ret
    exact ⟨rfl, hbt⟩
  by_cases h10 : 10 < len1
  · go_enter Try.func5, Try.ntmps5
    go_wp2_with fail
    refine (told_any _).mono ?_
    rintro e wt ⟨rfl, hbt⟩
    go_wp2
    go_ret
    exact ⟨rfl, hbt⟩
  have hnil : a1 = none → len1 = 0 ∧ cap1 = 0 := by
    rcases w1 with ⟨_, h1, h2, _⟩ | ⟨x, h, _⟩
    · exact fun _ => ⟨h1, h2⟩
    · exact fun e => by rw [h] at e; cases e
  obtain ⟨bs, hbl, hBy, hcap, hmax⟩ := Bytes.of_row w1
  clear w1
  have HBL := Lib.hid hbl
  have HBY := Lib.hid hBy
  have HNIL := Lib.hid hnil
  clear hbl hBy hnil
  obtain ⟨i0, hi, hz0, hz1, hz2⟩ := info_parts Try.info5
  go_enter Try.func5, Try.ntmps5
  go_upto_region 3 with fail
  go_cut [5] (fun v wx => Hid (wx.ownsRow w.heap.size 5 1 v len1 (bytesV bs) ∧ Below w.heap.size w wx))
  case first =>
    have hown0 : (w.alloc (.cells #[] 5)).ownsRow w.heap.size 5 1 (.slice (some ⟨w.heap.size, 0, none⟩) 0 0) 0 [] := World.ownsRow_lit w #[] 0 (Nat.le_refl _) (by decide) rfl
    have HOWN0 := Lib.hid hown0
    clear hown0
    rcases a1 with _ | ad
    · obtain ⟨rfl, rfl⟩ := HNIL.out rfl
      go_wp2_with (at_builtin; refine wpList_append_own_none rfl _ _ 23 rfl w.heap.size 5 i0 1 Try.underlying23 hi _ _ _ rfl HOWN0.out rfl ?_)
      go_meet
      have e : bs = [] := List.eq_nil_of_length_eq_zero HBL.out
      rw [e]
      exact ⟨HOWN0.out, (Below.refl _ _).alloc (Nat.le_refl _) _⟩
    · have hbv : (bytesV bs).length = len1 * 1 := by rw [bytesV_length, HBL.out, Nat.mul_one]
      have hcl : ∀ j u, (bytesV bs)[j]? = some u → (w.alloc (.cells #[] 5)).cell? (ad.add j) = some u := by
        intro j u hu
        have hj : j < bs.length := by
          rcases Nat.lt_or_ge j bs.length with h | h
          · exact h
          · rw [List.getElem?_eq_none (by rw [bytesV_length]; exact h)] at hu; cases hu
        rw [bytesV_get _ _ hj] at hu
        obtain ⟨ad', e, hc⟩ := (HBY.out.below ((Below.refl _ w).alloc (Nat.le_refl _) (.cells #[] 5))).2 (by omega)
        injection e with e
        subst e
        rw [hc j hj]
        exact hu
      have HBV := Lib.hid hbv
      have HCL := Lib.hid hcl
      clear hbv hcl
      go_wp2_with (at_builtin; refine wpList_append_own _ rfl _ _ 23 rfl w.heap.size 5 i0 (.int .u8 0) 1 1 Try.underlying23 hi hz0 hz1 hz2 rfl (by decide) _ _ _ rfl HOWN0.out ad len1 cap1 (bytesV bs) rfl HBV.out HCL.out (bytesV_one bs) ?c3 ?c4 ?c5 ?_)
      case c3 => unfold maxLen; omega
      case c4 => omega
      case c5 => simp
      intro v1 wb hown1 hgrow1 _
      go_wp2_with fail
      go_meet
      refine ⟨by simpa using hown1, ((Below.refl _ _).alloc (Nat.le_refl _) _).grown hgrow1 (by simp) (fun k h => (HOWN0.out.lt k h).1)⟩
  case rest =>
    obtain ⟨hown1, hb1⟩ := hcut.out
    have HOWN1 := Lib.hid hown1
    clear hown1 hcut
    have hl64 := HN.out
    have HEL := Lib.hid (encs_len ns HN.out)
    clear hl64
    go_wp2
    go_loopw [5, 6] (fun v i wr => ∃ (k N : Nat), k ≤ len0 ∧ i = .int .i64 (k : Int) ∧ Hid (N = len1 + (encs (ns.take k)).length) ∧ N ≤ 10 + 10 * k ∧ wr.ownsRow w.heap.size 5 1 v N (bytesV (bs ++ encs (ns.take k))) ∧ Below w.heap.size w wr)
      (fun _ i _ => len0 - (intOf i).toNat)
    case atStart => exact ⟨0, len1, Nat.zero_le _, rfl, by simp [Hid, encs], by omega, by simpa [encs] using HOWN1.out, hb1⟩
    case round =>
      obtain ⟨k, N, hk, rfl, HN', hN, hown, hb⟩ := hrel
      have hbs := hb.size
      by_cases hlt : k < len0
      · obtain ⟨b, off, rfl, hblk, hcell⟩ := HNC.out (by omega)
        have hck := (hb.cell (p := ⟨b, off + k, none⟩) hblk).trans (hcell k hlt)
        have hn64 : ns.getD k 0 < 18446744073709551616 := HN.out _ (getD_mem (by rw [HNL.out]; exact hlt))
        have het := encs_take (ns := ns) (k := k) (by rw [HNL.out]; exact hlt)
        clear hcell
        generalize ns.getD k 0 = n at hck hn64 het
        have HET := Lib.hid het
        clear het
        have hl10 := enc_len_le hn64
        go_wp2_with fail
        refine (put_any n _ hn64).mono ?_
        rintro e wp ⟨g, cap, rfl, hoq, hbp⟩
        have hown2 := own_below hown hbp
        have hcl := hoq.cells (g := g) rfl
        have hbv : (bytesV (enc n)).length = (enc n).length * 1 := by rw [bytesV_length, Nat.mul_one]
        have HOWN2 := Lib.hid hown2
        have HCL := Lib.hid hcl
        have HBV := Lib.hid hbv
        have hps := hbp.size
        have hbw : Below w.heap.size w wp := hb.trans (hbp.mono hbs)
        clear hown2 hcl hbv hoq hck
        go_wp2_with (at_builtin; refine wpList_append_own _ rfl _ _ 23 rfl w.heap.size 5 i0 (.int .u8 0) 1 1 Try.underlying23 hi hz0 hz1 hz2 rfl (by decide) _ _ _ rfl HOWN2.out ⟨g, 0, none⟩ (enc n).length cap (bytesV (enc n)) rfl HBV.out HCL.out (bytesV_one _) ?d3 ?d4 ?d5 ?_)
        case d3 => unfold maxLen; omega
        case d4 => omega
        case d5 => omega
        intro v2 wc hown3 hgrow3 _
        go_wp2
        go_roundw
        case rel =>
          refine ⟨k + 1, N + (enc n).length, by omega, by go_num, ?_, by omega, ?_, ?_⟩
          · show _ = _
            rw [HET.out, List.length_append, HN'.out]; omega
          · rw [HET.out, ← List.append_assoc, bytesV_append]; exact hown3
          · exact hbw.grown hgrow3 (by omega) (fun k h => (HOWN2.out.lt k h).1)
        case measure => simp [intOf]; omega
      · obtain rfl : k = len0 := by omega
        rw [List.take_of_length_le (by rw [HNL.out]; exact Nat.le_refl _)] at hown HN'
        obtain ⟨A, cap, rfl, hBB, hBL, hBc, hBm⟩ := own_any hown (by
          intro c hc
          rcases List.mem_append.1 hc with hc | hc
          · exact HBY.out.1 c hc
          · exact encs_byte ns c hc)
        have HBB := Lib.hid hBB
        have HBLL := Lib.hid hBL
        have HBM := Lib.hid hBm
        clear hBB hBL hown
        go_wp2
        go_loop [7, 8] (fun at_ i => ∃ (j p : Nat), j ≤ k ∧ i = .int .i64 (j : Int) ∧ at_ = .int .i64 (p : Int) ∧ Hid (p = len1 + (encs (ns.take j)).length) ∧ p ≤ N) (fun _ i => k - (intOf i).toNat)
        case atStart => exact ⟨0, len1, Nat.zero_le _, rfl, rfl, by simp [Hid, encs], by have := HN'.out; omega⟩
        case round =>
          obtain ⟨j, p, hj, rfl, rfl, HP, hpN⟩ := hrel
          by_cases hjk : j < k
          · obtain ⟨b, off, rfl, hblk, hcell⟩ := HNC.out (by omega)
            have hck := (hb.cell (p := ⟨b, off + j, none⟩) hblk).trans (hcell j hjk)
            have hn64 : ns.getD j 0 < 18446744073709551616 := HN.out _ (getD_mem (by rw [HNL.out]; exact hjk))
            have het := encs_take (ns := ns) (k := j) (by rw [HNL.out]; exact hjk)
            have hdr := encs_drop (ns := ns) (k := j) (by rw [HNL.out]; exact hjk) bs
            have hel := encs_take_le ns (j + 1)
            clear hcell
            generalize ns.getD j 0 = n at hck hn64 het hdr
            have hpl : p + (enc n).length ≤ N := by
              have h1 := HP.out
              have h2 := HN'.out
              rw [het, List.length_append] at hel
              omega
            have hp' : (bs ++ encs (ns.take j)).length = p := by rw [List.length_append, HBL.out, HP.out]
            rw [hp'] at hdr
            have hd : dec 0 0 ((bs ++ encs ns).drop p) = some (n, (enc n).length) := by rw [hdr]; exact dec_enc0 n _ hn64
            have HET := Lib.hid het
            have HDD := Lib.hid hd
            have hl10 := enc_len_le hn64
            clear het hdr hel hp' hd
            go_wp2_with fail
            refine (get_some (bs := bs ++ encs ns) HBLL.out HBB.out hBc HBM.out hpN HDD.out).mono ?_
            rintro e wt ⟨rfl, rfl⟩
            go_wp2_with fail
            refine (size_nat n _ hn64).mono ?_
            rintro e wt ⟨rfl, rfl⟩
            go_wp2
            go_round
            case rel => 
              refine ⟨j + 1, p + (enc n).length, by omega, by go_num, by simp, ?_, hpl⟩
              show _ = _
              rw [HET.out, List.length_append, HP.out]; omega
            case measure => simp [intOf]; omega
          · have hpe : p = N := by
              have h1 := HP.out
              rw [List.take_of_length_le (by rw [HNL.out]; omega)] at h1
              have h2 := HN'.out
              omega
            subst hpe
            go_wp2_with fail
            refine (told_any _).mono ?_
            rintro e wt ⟨rfl, hbt⟩
            go_wp2
            go_ret
            exact ⟨rfl, hb.trans (hbt.mono hb.size)⟩
end Go.Proofs.Ytimopggllnfibaa.varyBack
