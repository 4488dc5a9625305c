/-
  Plain: lines, words and numbers of bytes; which policies may be, and what a text says. No program in it.
-/
namespace Go.Proofs.YtdpoahjgdndnhaaDoor

def In64 (a : Int) : Prop := -9223372036854775808 ≤ a ∧ a ≤ 9223372036854775807
instance (a : Int) : Decidable (In64 a) := by unfold In64; infer_instance

/-- A policy: four ages, the count, the span. -/
structure Pol where
  a0 : Int
  a1 : Int
  a2 : Int
  a3 : Int
  cn : Int
  sp : Int
deriving DecidableEq

def Pol.zero : Pol := ⟨0, 0, 0, 0, 0, 0⟩
def Pol.dflt : Pol := ⟨60, 600, 6000, 0, 8, 30⟩
def Pol.ok (p : Pol) : Prop := In64 p.a0 ∧ In64 p.a1 ∧ In64 p.a2 ∧ In64 p.a3 ∧ In64 p.cn ∧ In64 p.sp
instance (p : Pol) : Decidable p.ok := by unfold Pol.ok; infer_instance
def Pol.at (p : Pol) : Nat → Int
  | 0 => p.a0
  | 1 => p.a1
  | 2 => p.a2
  | 3 => p.a3
  | 4 => p.cn
  | _ => p.sp
/-- What a line sets: an age, the count, the span. -/
def Pol.put (p : Pol) (k : Nat) (n : Int) : Pol :=
  match k with
  | 0 => { p with a0 := n }
  | 1 => { p with a1 := n }
  | 2 => { p with a2 := n }
  | 3 => { p with a3 := n }
  | 4 => { p with cn := min n 65 }
  | _ => { p with sp := n }

def ageOk (a : Int) : Prop := 0 ≤ a ∧ a ≤ 1099511627776
instance (a : Int) : Decidable (ageOk a) := by unfold ageOk; infer_instance
/-- An age behind the age b. -/
def nextOk (b a : Int) : Prop := a = 0 ∨ (b ≠ 0 ∧ b ≤ a)
instance (b a : Int) : Decidable (nextOk b a) := by unfold nextOk; infer_instance
def Pol.ages (p : Pol) : Prop := (ageOk p.a0 ∧ ageOk p.a1 ∧ ageOk p.a2 ∧ ageOk p.a3) ∧ (nextOk p.a0 p.a1 ∧ nextOk p.a1 p.a2 ∧ nextOk p.a2 p.a3) ∧ p.a3 = 0
instance (p : Pol) : Decidable p.ages := by unfold Pol.ages; infer_instance
def Pol.may (p : Pol) : Prop := p.ages ∧ (1 ≤ p.cn ∧ p.cn ≤ 64) ∧ 1 ≤ p.sp ∧ p.sp ≤ 200
instance (p : Pol) : Decidable p.may := by unfold Pol.may; infer_instance

/-- What stands ahead of the first c, what stands behind it, whether it is there. -/
def cut1 (c : UInt8) : List UInt8 → List UInt8 × List UInt8 × Bool
  | [] => ([], [], false)
  | x :: r => if x = c then ([], r, true) else (x :: (cut1 c r).1, (cut1 c r).2.1, (cut1 c r).2.2)
/-- The pieces between the c's. -/
def pieces (c : UInt8) : List UInt8 → List (List UInt8)
  | [] => [[]]
  | x :: r => if x = c then [] :: pieces c r else
    match pieces c r with
    | h :: t => (x :: h) :: t
    | [] => [[x]]
theorem pieces_ne (c : UInt8) : ∀ l, pieces c l ≠ []
  | [] => by simp [pieces]
  | x :: r => by
    unfold pieces
    split
    · simp
    · split <;> simp
theorem pieces_cut (c : UInt8) : ∀ l, pieces c l = (cut1 c l).1 :: (if (cut1 c l).2.2 then pieces c (cut1 c l).2.1 else [])
  | [] => by simp [pieces, cut1]
  | x :: r => by
    by_cases h : x = c
    · simp [pieces, cut1, h]
    · have ih := pieces_cut c r
      simp only [pieces, cut1, if_neg h]
      rw [ih]
theorem cut1_len (c : UInt8) : ∀ l, (cut1 c l).1.length ≤ l.length ∧ (cut1 c l).2.1.length ≤ l.length ∧ (l ≠ [] → (cut1 c l).2.1.length < l.length)
  | [] => by simp [cut1]
  | x :: r => by
    have ih := cut1_len c r
    by_cases h : x = c
    · simp [cut1, h]
    · simp only [cut1, if_neg h, List.length_cons]
      omega
theorem cut1_none (c : UInt8) : ∀ l, (cut1 c l).2.2 = false → (cut1 c l).1 = l ∧ (cut1 c l).2.1 = []
  | [] => by simp [cut1]
  | x :: r => by
    have ih := cut1_none c r
    by_cases h : x = c
    · simp [cut1, h]
    · simp only [cut1, if_neg h]
      intro hf
      obtain ⟨h1, h2⟩ := ih hf
      rw [h1, h2]
      exact ⟨rfl, rfl⟩

/-- The words of a line: at most four of them. -/
def wordsB (l : List UInt8) : List (List UInt8) := (pieces 32 l).filter (fun x => !x.isEmpty)
def words (l : List UInt8) : List (List UInt8) := (wordsB (cut1 35 l).1).take 4
theorem wordsB_nil : wordsB [] = [] := rfl
theorem wordsB_cut (l : List UInt8) : wordsB l = (if (cut1 32 l).1 = [] then [] else [(cut1 32 l).1]) ++ wordsB (cut1 32 l).2.1 := by
  unfold wordsB
  rw [pieces_cut 32 l, List.filter_cons]
  have hr : (if (cut1 32 l).2.2 = true then pieces 32 (cut1 32 l).2.1 else []).filter (fun x => !x.isEmpty) = (pieces 32 (cut1 32 l).2.1).filter (fun x => !x.isEmpty) := by
    cases h : (cut1 32 l).2.2 with
    | true => simp
    | false => rw [(cut1_none 32 l h).2]; rfl
  rw [hr]
  cases h : (cut1 32 l).1 <;> simp

def dig (c : UInt8) : Bool := decide (48 ≤ c.toNat) && decide (c.toNat ≤ 57)
def numOn : Int → List UInt8 → Option Int
  | n, [] => some n
  | n, c :: r => if dig c then numOn (10 * n + ((c.toNat : Int) - 48)) r else none
/-- A number: 1 to 13 digits. -/
def num (l : List UInt8) : Option Int := if 1 ≤ l.length ∧ l.length ≤ 13 then numOn 0 l else none
def ever : List UInt8 := [101, 118, 101, 114]
def keep : List UInt8 := [107, 101, 101, 112]
def sealB : List UInt8 := [115, 101, 97, 108]
def span : List UInt8 := [115, 112, 97, 110]
def age (l : List UInt8) : Option Int := if l = ever then some 0 else num l
def nameAt : Nat → List UInt8
  | 0 => [114, 97, 119]
  | 1 => [53, 109]
  | 2 => [49, 104]
  | _ => [49, 100]
def tier (l : List UInt8) : Option Nat :=
  if nameAt 0 = l then some 0 else if nameAt 1 = l then some 1 else if nameAt 2 = l then some 2 else if nameAt 3 = l then some 3 else none
/-- What words say: which place, which number; whether they say anything. -/
def readR (ws : List (List UInt8)) : Nat × Int × Bool :=
  match ws with
  | [a, b, c] => if a = keep then ((tier b).getD 0, (age c).getD 0, (tier b).isSome && (age c).isSome) else (0, 0, false)
  | [a, b] => if a = sealB then (4, (num b).getD 0, (num b).isSome) else if a = span then (5, (num b).getD 0, (num b).isSome) else (0, 0, false)
  | _ => (0, 0, false)
/-- What the lines say, behind so many lines. -/
def parseOn : Nat → Pol → List Bool → List (List UInt8) → Pol × Int × Int
  | _, p, _, [] => if p.may then (p, 0, 0) else (Pol.zero, 5, 0)
  | n, p, s, l :: r =>
    if words l = [] then parseOn (n + 1) p s r else
    if (readR (words l)).2.2 && !(s.getD (readR (words l)).1 false) then parseOn (n + 1) (p.put (readR (words l)).1 (readR (words l)).2.1) (s.set (readR (words l)).1 true) r
    else (Pol.zero, 4, (n : Int) + 1)
def saidNone : List Bool := [false, false, false, false, false, false]
def parse (l : List UInt8) : Pol × Int × Int := parseOn 0 Pol.dflt saidNone (pieces 10 l)

theorem tier_lt (l : List UInt8) : (tier l).getD 0 < 4 := by
  unfold tier
  repeat (split; · decide)
  decide
theorem readR_lt (ws : List (List UInt8)) : (readR ws).1 < 6 := by
  unfold readR
  split
  · split
    · exact Nat.lt_trans (tier_lt _) (by decide)
    · decide
  · split
    · exact (by decide : 4 < 6)
    · split
      · exact (by decide : 5 < 6)
      · decide
  · decide
theorem numOn_bound : ∀ (l : List UInt8) (n v : Int) (B : Int), 0 ≤ n → n < B → numOn n l = some v → 0 ≤ v ∧ v < B * 10 ^ l.length
  | [], n, v, B, h0, h1, h => by
    simp only [numOn, Option.some.injEq] at h
    subst h
    simpa using ⟨h0, h1⟩
  | c :: r, n, v, B, h0, h1, h => by
    unfold numOn at h
    split at h
    · next hd =>
      unfold dig at hd
      simp only [Bool.and_eq_true, decide_eq_true_eq] at hd
      have := numOn_bound r _ v (10 * B) (by omega) (by omega) h
      rw [List.length_cons, Int.pow_succ]
      refine ⟨this.1, ?_⟩
      have e : B * (10 ^ r.length * 10) = 10 * B * 10 ^ r.length := by
        rw [← Int.mul_assoc, Int.mul_comm, Int.mul_assoc]
      rw [e]
      exact this.2
    · cases h
theorem num_bound {l : List UInt8} {v : Int} (h : num l = some v) : 0 ≤ v ∧ v < 10000000000000 := by
  unfold num at h
  split at h
  · next hl =>
    have := numOn_bound l 0 v 1 (by omega) (by omega) h
    refine ⟨this.1, Int.lt_of_lt_of_le this.2 ?_⟩
    have hp : (10 : Nat) ^ l.length ≤ 10 ^ 13 := Nat.pow_le_pow_right (by decide) hl.2
    have : ((10 : Int)) ^ l.length = ((10 ^ l.length : Nat) : Int) := by simp
    rw [this, Int.one_mul]
    have h13 : (10 : Nat) ^ 13 = 10000000000000 := by decide
    omega
  · cases h
theorem num_fits (l : List UInt8) : 0 ≤ (num l).getD 0 ∧ (num l).getD 0 < 10000000000000 := by
  cases h : num l with
  | none => simp
  | some v => exact num_bound h
theorem age_fits (l : List UInt8) : 0 ≤ (age l).getD 0 ∧ (age l).getD 0 < 10000000000000 := by
  unfold age
  split
  · simp
  · exact num_fits l
theorem readR_fits (ws : List (List UInt8)) : 0 ≤ (readR ws).2.1 ∧ (readR ws).2.1 < 10000000000000 := by
  unfold readR
  split
  · split
    · exact age_fits _
    · decide
  · split
    · exact num_fits _
    · split
      · exact num_fits _
      · decide
  · decide
end Go.Proofs.YtdpoahjgdndnhaaDoor
