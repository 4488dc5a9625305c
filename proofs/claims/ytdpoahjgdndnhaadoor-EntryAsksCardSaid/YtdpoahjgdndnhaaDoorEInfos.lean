/-
  What a map of segments holds; slices.SortedFunc, infos: what is there, by Ids that rise.
-/
import Derived.Test.YtdpoahjgdndnhaaDoorESort
import Derived.Deep.RegionHeld
set_option maxRecDepth 100000
namespace Go.Proofs.YtdpoahjgdndnhaaDoor
open Go.RowKit Go.Maps Go.Sort Go.Shelf
set_option linter.unusedVariables false

/-- A row of segments that reads so. -/
structure InfRow (w : World) (A : Option Addr) (n cap : Nat) (l : List Inf) : Prop where
  len : l.length = n
  le : n ≤ cap
  max : cap ≤ maxLen
  nil : A = none → cap = 0
  cells : 0 < n → ∃ b off, A = some ⟨b, off, none⟩ ∧ b < w.heap.size ∧ ∀ j, j < n →
    w.cell? ⟨b, off + j * 5, none⟩ = some (.int .i64 (l.getD j Inf.zero).id) ∧ w.cell? ⟨b, off + j * 5 + 1, none⟩ = some (.int .i64 (l.getD j Inf.zero).tr) ∧
    w.cell? ⟨b, off + j * 5 + 2, none⟩ = some (.int .i64 (l.getD j Inf.zero).fr) ∧ w.cell? ⟨b, off + j * 5 + 3, none⟩ = some (.int .i64 (l.getD j Inf.zero).tl) ∧
    w.cell? ⟨b, off + j * 5 + 4, none⟩ = some (.int .u32 (l.getD j Inf.zero).sm)
theorem InfRow.below {w w' : World} {A : Option Addr} {n cap : Nat} {l : List Inf} (h : InfRow w A n cap l) (hb : Below w.heap.size w w') : InfRow w' A n cap l := by
  refine ⟨h.len, h.le, h.max, h.nil, fun hn => ?_⟩
  obtain ⟨b, off, e, hlt, hc⟩ := h.cells hn
  refine ⟨b, off, e, Nat.lt_of_lt_of_le hlt hb.size, fun j hj => ?_⟩
  obtain ⟨h0, h1, h2, h3, h4⟩ := hc j hj
  exact ⟨by rw [hb.cell hlt]; exact h0, by rw [hb.cell hlt]; exact h1, by rw [hb.cell hlt]; exact h2, by rw [hb.cell hlt]; exact h3, by rw [hb.cell hlt]; exact h4⟩
/-- A store elsewhere leaves the row as it is. -/
theorem InfRow.set {w : World} {A : Option Addr} {n cap : Nat} {l : List Inf} (h : InfRow w A n cap l) {a : Addr} (ha : ∀ ad, A = some ad → a.block ≠ ad.block) (v : Value) : InfRow (w.setCell a v) A n cap l := by
  refine ⟨h.len, h.le, h.max, h.nil, fun hn => ?_⟩
  obtain ⟨b, off, e, hlt, hc⟩ := h.cells hn
  have hne : a.block ≠ b := ha _ e
  refine ⟨b, off, e, by simpa using hlt, fun j hj => ?_⟩
  obtain ⟨h0, h1, h2, h3, h4⟩ := hc j hj
  exact ⟨by rw [World.cell?_setCell_far _ _ _ _ hne]; exact h0, by rw [World.cell?_setCell_far _ _ _ _ hne]; exact h1, by rw [World.cell?_setCell_far _ _ _ _ hne]; exact h2, by rw [World.cell?_setCell_far _ _ _ _ hne]; exact h3, by rw [World.cell?_setCell_far _ _ _ _ hne]; exact h4⟩
theorem InfRow.none (w : World) : InfRow w .none 0 0 [] := ⟨rfl, Nat.le_refl _, by unfold maxLen; omega, fun _ => rfl, fun h => by omega⟩

/-- The map in block b says what is there: l, by Ids. -/
def ThereIs (w : World) (b : Nat) (l : List Inf) (n : Nat) : Prop :=
  ∃ D, w.ownsMap Tryd.prog 3 infR b n D ∧ (∀ i, has D (.int .i64 i) = true ↔ i ∈ l.map Inf.id) ∧ ∀ x ∈ l, ∀ zd, D.atKey (.int .i64 x.id) zd = x.dat
/-- The map in block b says which are gone. -/
def GoneIs (w : World) (b : Nat) (P : Int → Prop) (n : Nat) : Prop :=
  ∃ D : DataW Unit, w.ownsMap Tryd.prog 3 unitElem b n D ∧ ∀ i, has D (.int .i64 i) = true ↔ P i

theorem asc_nodup {l : List Inf} (h : (l.map Inf.id).Pairwise (· < ·)) : l.Nodup := by
  rw [List.pairwise_map] at h
  exact h.imp (fun {a b} hab e => by subst e; omega)
theorem infs_perm {D : DataW Unit} {l : List Inf} (hasc : (l.map Inf.id).Pairwise (· < ·)) (h1 : ∀ i, has D (.int .i64 i) = true ↔ i ∈ l.map Inf.id) (h2 : ∀ x ∈ l, ∀ zd, D.atKey (.int .i64 x.id) zd = x.dat)
    {ps : List (Int × Inf)} (h : InfsOf D ps) : (ps.map (·.2)).Perm l := by
  obtain ⟨hn, hm, hv⟩ := h
  have hkey : ∀ p ∈ ps, p.2 ∈ l ∧ p.2.id = p.1 := by
    intro p hp
    have : p.1 ∈ l.map Inf.id := (h1 _).1 ((hm _).1 (List.mem_map.2 ⟨p, hp, rfl⟩))
    obtain ⟨x, hx, he⟩ := List.mem_map.1 this
    have e1 := hv p hp (.agg [])
    have e2 := h2 x hx (.agg [])
    rw [he] at e2
    have e3 : p.2 = x := Inf.dat_inj (e1.symm.trans e2)
    rw [e3]
    exact ⟨hx, he⟩
  refine (List.perm_ext_iff_of_nodup ?_ (asc_nodup hasc)).2 (fun x => ⟨fun hx => ?_, fun hx => ?_⟩)
  · rw [List.nodup_iff_pairwise_ne, List.pairwise_map]
    rw [List.nodup_iff_pairwise_ne, List.pairwise_map] at hn
    exact hn.imp_of_mem (fun {a b} ha hb hne e => hne (by rw [← (hkey a ha).2, ← (hkey b hb).2, e]))
  · obtain ⟨p, hp, rfl⟩ := List.mem_map.1 hx
    exact (hkey p hp).1
  · have : x.id ∈ ps.map (·.1) := (hm _).2 ((h1 _).2 (List.mem_map.2 ⟨x, hx, rfl⟩))
    obtain ⟨p, hp, he⟩ := List.mem_map.1 this
    have e1 := hv p hp (.agg [])
    have e2 := h2 x hx (.agg [])
    rw [← he] at e2
    have e3 : p.2 = x := Inf.dat_inj (e1.symm.trans e2)
    exact List.mem_map.2 ⟨p, hp, e3⟩
theorem sorted_is {d d' : Array Inf} {l : List Inf} (hasc : (l.map Inf.id).Pairwise (· < ·)) (hp : d.toList.Perm l) (h1 : PermIn 0 d.size d d') (h2 : SortedIn (Go.Proofs.ltOf cmpI) 0 d.size d') : d'.toList = l := by
  obtain ⟨hsz, _, hperm⟩ := h1
  have e1 : d'.extract 0 d.size = d' := by rw [← hsz]; exact Array.extract_size
  rw [e1, Array.extract_size] at hperm
  have hl := hasc
  rw [List.pairwise_map] at hl
  refine List.Perm.eq_of_pairwise (le := fun x y => x.id ≤ y.id) ?_ ?_ (hl.imp (fun {a b} h => by omega)) (hperm.trans hp)
  · intro a b ha hb h1 h2
    have hla : a ∈ l := (hperm.trans hp).mem_iff.1 ha
    have hae : a.id = b.id := by omega
    obtain ⟨i, hi, ei⟩ := List.getElem_of_mem hla
    obtain ⟨j, hj, ej⟩ := List.getElem_of_mem hb
    rw [List.pairwise_iff_getElem] at hl
    rcases Nat.lt_trichotomy i j with h | h | h
    · have := hl i j hi hj h; rw [ei, ej] at this; omega
    · subst h; rw [← ei, ← ej]
    · have := hl j i hj hi h; rw [ei, ej] at this; omega
  · rw [List.pairwise_iff_getElem]
    intro i j hi hj hij
    have hi' : i < d'.size := by simpa using hi
    have hj' : j < d'.size := by simpa using hj
    have := h2 i j (Nat.zero_le _) hij (by omega)
    rw [ltI, getElem!_pos d' j hj', getElem!_pos d' i hi'] at this
    have := of_decide_eq_false this
    simp only [Array.getElem_toList]
    omega

theorem infsV_get : ∀ (l : List Inf) (t : Nat), t < l.length * 5 → (infsV l)[t]? = some ((Inf.enc (l.toArray[t / 5]!))[t % 5]!)
  | [], t, h => by simp at h
  | x :: r, t, h => by
    rw [show infsV (x :: r) = x.enc ++ infsV r from rfl]
    by_cases h5 : t < 5
    · rw [List.getElem?_append_left (by simpa [Inf.enc] using h5)]
      have e1 : t / 5 = 0 := by omega
      have e2 : t % 5 = t := by omega
      rw [e1, e2]
      match t, h5 with
      | 0, _ | 1, _ | 2, _ | 3, _ | 4, _ => simp [Inf.enc]
    · rw [List.getElem?_append_right (by simp [Inf.enc]; omega)]
      have hl : x.enc.length = 5 := rfl
      rw [hl]
      have hr : t - 5 < r.length * 5 := by simp at h; omega
      rw [infsV_get r (t - 5) hr]
      have e1 : t / 5 = (t - 5) / 5 + 1 := by omega
      have e2 : t % 5 = (t - 5) % 5 := by omega
      rw [e1, e2]
      have hq : (t - 5) / 5 < r.length := by omega
      simp [hq]
theorem holds_infs {w : World} {g : Nat} {cur : Array Value} {e : TypeId} {l : List Inf} (hb : w.heap[g]? = some (.cells cur e (0, 0))) (ht : cur.toList.take (l.length * 5) = infsV l) : HoldsK Inf.enc 5 w g 0 l.toArray := by
  intro j hj
  have hj' : j < l.length * 5 := by simpa using hj
  refine ⟨?_, by simp [World.frozen?, hb]⟩
  have h1 : (cur.toList.take (l.length * 5))[j]? = (infsV l)[j]? := by rw [ht]
  rw [List.getElem?_take_of_lt hj', infsV_get l j hj'] at h1
  rw [get_flatK _ _ _ _ (by simpa using hj')]
  simp only [World.cell?, hb, Nat.zero_add]
  simp only [Option.isSome_none, Bool.false_eq_true, if_false]
  rw [← Array.getElem?_toList, h1]
  rfl
theorem row_of_holds {w : World} {g cap : Nat} {d : Array Inf} (h : HoldsK Inf.enc 5 w g 0 d) (hg : g < w.heap.size) (hle : d.size ≤ cap) (hm : cap ≤ maxLen) : InfRow w (some ⟨g, 0, none⟩) d.size cap d.toList := by
  refine ⟨by simp, hle, hm, (fun e => by cases e), fun hn => ⟨g, 0, rfl, hg, fun j hj => ?_⟩⟩
  have e : d.toList.getD j Inf.zero = d[j]! := by
    rw [List.getD_eq_getElem?_getD, Array.getElem?_toList, getElem!_pos d j hj, Array.getElem?_eq_getElem hj]; rfl
  rw [e]
  refine ⟨?_, ?_, ?_, ?_, ?_⟩
  · simpa [Inf.enc] using (h.cell hj (c := 0) (by decide)).1
  · simpa [Inf.enc] using (h.cell hj (c := 1) (by decide)).1
  · simpa [Inf.enc] using (h.cell hj (c := 2) (by decide)).1
  · simpa [Inf.enc] using (h.cell hj (c := 3) (by decide)).1
  · simpa [Inf.enc] using (h.cell hj (c := 4) (by decide)).1
theorem grownBy_sortK {w : World} {g n : Nat} {os : Array Obj} (d : Array Inf) : w.grownBy (Go.Proofs.sortWorldK Inf.enc 5 w g 0 n d os) (some g) := by
  refine ⟨rfl, rfl, rfl, by simp [Go.Proofs.sortWorldK, putRowK], fun k hk hne => ?_⟩
  unfold Go.Proofs.sortWorldK putRowK
  rw [heap_grow_old _ _ (by simpa using hk)]
  have : g ≠ k := fun e => hne (by rw [e])
  simp [putRow, mapBlock, Sort.ahead, Array.getElem?_modify, this]
theorem holds_sortK {w : World} {g n : Nat} {os : Array Obj} {d d' : Array Inf} (h : HoldsK Inf.enc 5 w g 0 d) (hg : g < w.heap.size) (hs : d'.size = d.size) : HoldsK Inf.enc 5 (Go.Proofs.sortWorldK Inf.enc 5 w g 0 n d' os) g 0 d' := by
  unfold Go.Proofs.sortWorldK
  exact holdsK_grow Inf.enc 5 _ os g 0 d' (by simpa [putRowK] using hg) (holdsK_putRowK Inf.enc 5 _ g 0 d d' (holdsK_ahead Inf.enc 5 w n g 0 d h) hs)

theorem enc_one (x : Inf) : ∀ v ∈ Inf.enc x, v.oneCell' = true := by
  intro v hv
  simp only [Inf.enc, List.mem_cons, List.not_mem_nil, or_false] at hv
  rcases hv with rfl | rfl | rfl | rfl | rfl <;> rfl

set_option maxHeartbeats 2000000 in
/-- slices.SortedFunc(seq, by Ids): the segments that the iterator gives, by Ids that rise. -/
theorem sortedFunc_in (n : Nat) (hn : 5 ≤ n) (g : Nat) (lb : Array Value) (eg : ∀ args w, (callFunc g args).run Tryd.prog w = .ok (.enter g args) w)
    (l : List Inf) (hasc : (l.map Inf.id).Pairwise (· < ·)) (N : Nat) (hlN : l.length ≤ N) (hNb : N * 40 ≤ 140737488355328) (w : World) (hseq : SeqGives Fence.wide (n - 1 - 1 - 1) Tryd.prog g lb Inf.val (fun ss => ss.Perm l) N w) :
    CallsIn Fence.wide n Tryd.prog 68 #[.func (.func g) #[] lb, .func (.func 70) #[] #[]] w fun e w' => ∃ (A : Option Addr) (cap : Nat), e = .returned (.slice A l.length cap) ∧ InfRow w' A l.length cap l ∧ Below w.heap.size w w' ∧ ∀ ad, A = some ad → w.heap.size ≤ ad.block := by
  have h1 : 1 ≤ n := by omega
  have hN : N ≤ maxLen := by unfold maxLen; omega
  have h44 : Fence.wide.fn 68 := trivial
  have h60 : Fence.wide.fn 86 := trivial
  have h61 : Fence.wide.fn 87 := trivial
  have e46 : ∀ args w, (callFunc 70 args).run Tryd.prog w = .ok (.enter 70 args) w := enters_of Tryd.func70 (by kernel_rfl) rfl
  refine callsIn_of_wp Tryd.func68 rfl h44 ?_ rfl
  simp only [Tryd.ntmps68, List.size_toArray, List.length_cons, List.length_nil, Nat.reduceAdd, Nat.reduceSub, Array.replicate_succ, Array.replicate_zero, List.push_toArray, List.append_toArray, List.nil_append, List.cons_append]
  gi_wp2_with (gi_at_call 86; refine (collect_in Fence.wide (n - 1) trivial trivial rfl (by omega) g lb trivial eg _ N hN hNb _ hseq).mono ?_; rintro e W ⟨v, ss, rfl, hS, hrow, hnil, hb⟩)
  have hlen : ss.length = l.length := hS.length_eq
  rcases hrow.2 with ⟨rfl, hz⟩ | ⟨gb, cap, cur, rfl, hbase, hgb, r1, r2, r3, r4⟩
  · have hss : ss = [] := List.eq_nil_of_length_eq_zero hz
    subst hss
    have hl0 : l = [] := List.eq_nil_of_length_eq_zero hlen.symm
    subst hl0
    have cN : CallsIn Fence.wide (n - 1) Tryd.prog 87 #[.slice none 0 0, .func (.func 70) #[] #[]] W fun e w' => e = .returned (.tuple #[]) ∧ w' = W := callsIn_wide.2 (AnyF.slices_SortFunc_none Tryd.sortInf none 0 _ W)
    gi_wp2_with (gi_at_call 87; refine cN.mono ?_; rintro e w' ⟨rfl, rfl⟩)
    go_ret
    exact ⟨none, 0, rfl, InfRow.none _, hb, fun ad e => by cases e⟩
  · have hH : HoldsK Inf.enc 5 W gb 0 ss.toArray := holds_infs hgb r4
    have hgl : gb < W.heap.size := (Array.getElem?_eq_some_iff.1 hgb).1
    have hsz : ss.toArray.size < 4611686018427387904 := by simp; omega
    have cS : CallsIn Fence.wide (n - 1) Tryd.prog 87 #[.slice (some ⟨gb, 0, none⟩) ss.toArray.size cap, .func (.func 70) #[] #[]] W fun e w' => e = .returned (.tuple #[]) ∧ ∃ (d' : Array Inf) (n : Nat) (os : Array Obj), PermIn 0 ss.toArray.size ss.toArray d' ∧ SortedIn (Go.Proofs.ltOf cmpI) 0 ss.toArray.size d' ∧ w' = Go.Proofs.sortWorldK Inf.enc 5 W gb 0 n d' os :=
      callsIn_wide.2 (AnyQ.slices_SortFunc Tryd.sortInf 5 Tryd.isAgg50 Tryd.sizeOf50 Inf.enc (fun _ => rfl) enc_one cmpI swoI 70 #[] gb 0 cap ss.toArray W e46 (cmpLays46 gb 0 _ W) hH hgl hsz)
    have hts : ss.toArray.size = ss.length := by simp
    rw [hts] at cS
    have HH := Lib.hid hH
    clear hH hrow r4 hgb hseq
    gi_wp2_with (gi_at_call 87; refine cS.mono ?_; rintro e w' ⟨rfl, d', nn, os, hp, hs, rfl⟩)
    go_ret
    have hd : d'.toList = l := sorted_is hasc (by simpa using hS) hp hs
    have hds : d'.size = ss.length := by have := hp.1; simpa using this
    have hr := row_of_holds (cap := cap) (holds_sortK (n := nn) (os := os) HH.out hgl hp.1) (by have := (grownBy_sortK (w := W) (g := gb) (n := nn) (os := os) d').size; omega) (by omega) r2
    rw [hd, hds, hlen] at hr
    exact ⟨some ⟨gb, 0, none⟩, cap, by simp, hr, hb.grown (grownBy_sortK d') hb.size (fun j hj => by cases hj; exact hbase), fun ad e => by cases e; exact hbase⟩

theorem ThereIs.kept {w w' : World} {b : Nat} {l : List Inf} {n : Nat} {row : Option Nat} (h : ThereIs w b l n) (hg : w.grownBy w' row) (hne : some b ≠ row) : ThereIs w' b l n := by
  obtain ⟨D, h1, h2, h3⟩ := h
  exact ⟨D, h1.kept hg hne, h2, h3⟩
theorem ThereIs.below {w w' : World} {b : Nat} {l : List Inf} {n : Nat} (h : ThereIs w b l n) (hb : Below w.heap.size w w') : ThereIs w' b l n := by
  obtain ⟨D, h1, h2, h3⟩ := h
  refine ⟨D, ?_, h2, h3⟩
  have hlt := h1.lt
  obtain ⟨es, clock, hbk, F, hs, hD⟩ := h1
  exact ⟨es, clock, (hb.block b hlt).trans hbk, F, hs, hD⟩

set_option maxHeartbeats 2000000 in
/-- infos: what the map says is there, by Ids that rise. -/
theorem infos_any (g bT : Nat) (l : List Inf) (nn : Nat) (w : World) (hc : w.cell? ⟨g, 0, none⟩ = some (.map (some bT))) (hT : ThereIs w bT l nn) (hasc : (l.map Inf.id).Pairwise (· < ·)) (hl : l.length ≤ nn) (hn : nn * 40 ≤ 140737488355328) :
    Calls Tryd.prog 49 #[.pointer (some ⟨g, 0, none⟩)] w fun e w' => ∃ (A : Option Addr) (cap : Nat), e = .returned (.slice A l.length cap) ∧ InfRow w' A l.length cap l ∧ Below w.heap.size w w' ∧ ∀ ad, A = some ad → w.heap.size ≤ ad.block := by
  refine (callsIn_wide (n := 8)).1 ?_
  obtain ⟨D, hown, hh, hv⟩ := hT
  have hbl := hown.lt
  have hgl : g < w.heap.size := World.block_lt_of_cell? w _ hc
  have hsz := hown.size_le
  have hseq : SeqGives Fence.wide 4 Tryd.prog 88 #[.pointer (some ⟨w.heap.size, 0, none⟩)] Inf.val (fun ss => ss.Perm l) nn (w.alloc (.cells #[.map (some bT)] 76)) := fun lp J W hW hJ hY h0 => by
    have hown' : W.ownsMap Tryd.prog 3 infR bT nn D := by
      obtain ⟨es, clock, hb, Ft, hs, hD⟩ := hown
      exact ⟨es, clock, (hW.block bT (by simp; omega)).trans ((Below.heap_alloc _ _ bT hbl).trans hb), Ft, hs, hD⟩
    have hm : W.cell? ⟨w.heap.size, 0, none⟩ = some (.map (some bT)) := (hW.cell (p := ⟨w.heap.size, 0, none⟩) (by simp)).trans (by simp)
    refine (values1_in Fence.wide 4 trivial rfl (by omega) lp w.heap.size bT nn D J (fun pre x W' hj hlt => hY pre x W' hj (by omega)) W hJ hm hown' h0).mono ?_
    rintro e W' ⟨he, xs, ⟨ps, hps, rfl⟩, hj⟩
    exact ⟨he, _, infs_perm hasc hh hv hps, hj⟩
  have cV : ∀ mb W, CallsIn Fence.wide 7 Tryd.prog 69 #[.map mb] W fun e w' => e = .returned (.func (.func 88) #[] #[.pointer (some ⟨W.heap.size, 0, none⟩)]) ∧ w' = W.alloc (.cells #[.map mb] 76) := fun mb W => by
    refine callsIn_of_wp Tryd.func69 rfl trivial ?_ rfl
    simp only [Tryd.ntmps69, List.size_toArray, List.length_cons, List.length_nil, Nat.reduceAdd, Nat.reduceSub, Array.replicate_succ, Array.replicate_zero, List.push_toArray, List.append_toArray, List.nil_append, List.cons_append]
    gi_wp2
    go_ret
    exact ⟨rfl, rfl⟩
  have cS := sortedFunc_in 7 (by omega) 88 #[.pointer (some ⟨w.heap.size, 0, none⟩)] (enters_of Tryd.func88 (by kernel_rfl) rfl) l hasc nn hl hn _ hseq
  have hf45 : Fence.wide.fn 69 := trivial
  have hf44 : Fence.wide.fn 68 := trivial
  have hb0 : Below w.heap.size w (w.alloc (.cells #[.map (some bT)] 76)) := past_alloc (Below.refl _ _) _
  have HB0 := Lib.hid hb0
  clear hb0 hown hh hv hseq hsz
  refine callsIn_of_wp Tryd.func49 rfl trivial ?_ rfl
  simp only [Tryd.ntmps49, List.size_toArray, List.length_cons, List.length_nil, Nat.reduceAdd, Nat.reduceSub, Array.replicate_succ, Array.replicate_zero, List.push_toArray, List.append_toArray, List.nil_append, List.cons_append]
  gi_wp2_with (first
    | (gi_at_call 69; refine (cV _ _).mono ?_; rintro e w' ⟨rfl, rfl⟩)
    | (gi_at_call 68; refine cS.mono ?_; rintro e w' ⟨A, cap, rfl, hr, hb, ha⟩))
  go_ret
  exact ⟨A, cap, rfl, hr, past HB0.out hb, fun ad e => by have := ha ad e; simp at this; omega⟩
end Go.Proofs.YtdpoahjgdndnhaaDoor
