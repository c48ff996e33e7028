/-
  Trees of digests as lists: roots, paths, and where a path leads. No program, no memory.
-/
import Derived.Test.YtebnlklodokhkaaDoorSA
namespace Go.Proofs.YtebnlklodokhkaaDoor

def leafL (b : List Int) : List Int := shaL (0 :: b)
def innerL (a b : List Int) : List Int := shaL (1 :: (a ++ b))
/-- The greatest power of two that is less than n, from k on; f: how many steps at most. -/
def halfGo : Nat → Nat → Nat → Nat
  | 0, k, _ => k
  | f + 1, k, n => if k < n - k then halfGo f (2 * k) n else k
def halfN (n : Nat) : Nat := halfGo n 1 n
theorem halfGo_spec : ∀ f k n, 0 < k → k < n → n ≤ k + f → k ≤ halfGo f k n ∧ halfGo f k n < n ∧ n ≤ 2 * halfGo f k n
  | 0, k, n, h0, h1, h2 => by omega
  | f + 1, k, n, h0, h1, h2 => by
    rw [halfGo]
    split
    · have := halfGo_spec f (2 * k) n (by omega) (by omega) (by omega)
      omega
    · omega
theorem halfN_spec (n : Nat) (h : 2 ≤ n) : 1 ≤ halfN n ∧ halfN n < n ∧ n ≤ 2 * halfN n := halfGo_spec n 1 n (by omega) (by omega) (by omega)
theorem halfGo_more : ∀ f k n, 0 < k → n ≤ k + f → halfGo (f + 1) k n = halfGo f k n
  | 0, k, n, h0, h1 => by
    conv => lhs; rw [halfGo, if_neg (by omega)]
    rfl
  | f + 1, k, n, h0, h1 => by
    rw [halfGo]
    split
    · rename_i hlt
      rw [halfGo_more f (2 * k) n (by omega) (by omega)]
      conv => rhs; rw [halfGo, if_pos hlt]
    · rename_i hlt
      conv => rhs; rw [halfGo, if_neg hlt]
/-- Enough steps are as good as any more. -/
theorem halfGo_enough (k n f g : Nat) (h0 : 0 < k) (hf : n ≤ k + f) (hg : f ≤ g) : halfGo g k n = halfGo f k n := by
  induction g with
  | zero =>
    obtain rfl : f = 0 := by omega
    rfl
  | succ g ih =>
    by_cases h : f ≤ g
    · rw [halfGo_more g k n h0 (by omega), ih h]
    · obtain rfl : f = g + 1 := by omega
      rfl
theorem halfGo_pow : ∀ f k n j, k = 2 ^ j → ∃ i, halfGo f k n = 2 ^ i
  | 0, k, n, j, h => ⟨j, h⟩
  | f + 1, k, n, j, h => by
    rw [halfGo]
    split
    · exact halfGo_pow f (2 * k) n (j + 1) (by rw [h, Nat.pow_succ]; omega)
    · exact ⟨j, h⟩
theorem halfN_pow (n : Nat) : ∃ i, halfN n = 2 ^ i := halfGo_pow n 1 n 0 rfl
/-- The half is what its two bounds say: any power of two within them is it. -/
theorem halfN_is (n r i : Nat) (h : 2 ≤ n) (hr : r = 2 ^ i) (h1 : r < n) (h2 : n ≤ 2 * r) : halfN n = r := by
  obtain ⟨j, hj⟩ := halfN_pow n
  obtain ⟨-, h3, h4⟩ := halfN_spec n h
  rw [hj] at h3 h4 ⊢
  rw [hr] at h1 h2 ⊢
  have a1 : 2 ^ j < 2 ^ (i + 1) := by rw [Nat.pow_succ]; omega
  have a2 : 2 ^ i < 2 ^ (j + 1) := by rw [Nat.pow_succ]; omega
  have b1 := (Nat.pow_lt_pow_iff_right (by decide : 1 < 2)).1 a1
  have b2 := (Nat.pow_lt_pow_iff_right (by decide : 1 < 2)).1 a2
  rw [show i = j by omega]

/-- The root of leaves; f: how deep at most. -/
def rootG : Nat → List (List Int) → List Int
  | 0, _ => shaL []
  | f + 1, ls => if ls.length = 0 then shaL [] else if ls.length = 1 then leafL (ls.getD 0 []) else innerL (rootG f (ls.take (halfN ls.length))) (rootG f (ls.drop (halfN ls.length)))
def rootL (ls : List (List Int)) : List Int := rootG ls.length ls
theorem rootG_enough : ∀ f g ls, List.length ls ≤ f → f ≤ g → rootG g ls = rootG f ls
  | 0, 0, ls, _, _ => rfl
  | 0, g + 1, ls, h, _ => by
    conv => lhs; rw [rootG, if_pos (by omega)]
    rfl
  | f + 1, 0, ls, _, hg => by omega
  | f + 1, g + 1, ls, h, hg => by
    rw [rootG, rootG]
    by_cases h0 : ls.length = 0
    · rw [if_pos h0, if_pos h0]
    · rw [if_neg h0, if_neg h0]
      by_cases h1 : ls.length = 1
      · rw [if_pos h1, if_pos h1]
      · rw [if_neg h1, if_neg h1]
        obtain ⟨a, b, -⟩ := halfN_spec ls.length (by omega)
        rw [rootG_enough f g _ (by rw [List.length_take]; omega) (by omega), rootG_enough f g _ (by rw [List.length_drop]; omega) (by omega)]
theorem rootL_nil (ls : List (List Int)) (h : ls.length = 0) : rootL ls = shaL [] := by
  unfold rootL
  rw [h]
  rfl
theorem rootL_one (ls : List (List Int)) (h : ls.length = 1) : rootL ls = leafL (ls.getD 0 []) := by
  unfold rootL
  rw [h, rootG, if_neg (by omega), if_pos h]
theorem rootL_two (ls : List (List Int)) (h : 2 ≤ ls.length) : rootL ls = innerL (rootL (ls.take (halfN ls.length))) (rootL (ls.drop (halfN ls.length))) := by
  obtain ⟨a, b, -⟩ := halfN_spec ls.length h
  obtain ⟨n, hn⟩ : ∃ n, ls.length = n + 1 := ⟨ls.length - 1, by omega⟩
  have e : rootL ls = rootG (n + 1) ls := by unfold rootL; rw [hn]
  rw [e, rootG, if_neg (by omega), if_neg (by omega)]
  unfold rootL
  rw [rootG_enough _ n (ls.take (halfN ls.length)) (Nat.le_refl _) (by rw [List.length_take]; omega), rootG_enough _ n (ls.drop (halfN ls.length)) (Nat.le_refl _) (by rw [List.length_drop]; omega)]

/-- The path of the leaf i, the nearest one first. -/
def pathG : Nat → List (List Int) → Nat → List (List Int)
  | 0, _, _ => []
  | f + 1, ls, i => if ls.length ≤ 1 then [] else if i < halfN ls.length then pathG f (ls.take (halfN ls.length)) i ++ [rootL (ls.drop (halfN ls.length))] else pathG f (ls.drop (halfN ls.length)) (i - halfN ls.length) ++ [rootL (ls.take (halfN ls.length))]
def pathL (ls : List (List Int)) (i : Nat) : List (List Int) := pathG ls.length ls i
theorem pathG_enough : ∀ f g ls i, List.length ls ≤ f → f ≤ g → pathG g ls i = pathG f ls i
  | 0, 0, ls, i, _, _ => rfl
  | 0, g + 1, ls, i, h, _ => by
    conv => lhs; rw [pathG, if_pos (by omega)]
    rfl
  | f + 1, 0, ls, i, _, hg => by omega
  | f + 1, g + 1, ls, i, h, hg => by
    rw [pathG, pathG]
    by_cases h0 : ls.length ≤ 1
    · rw [if_pos h0, if_pos h0]
    · rw [if_neg h0, if_neg h0]
      obtain ⟨a, b, -⟩ := halfN_spec ls.length (by omega)
      rw [pathG_enough f g _ _ (by rw [List.length_take]; omega) (by omega), pathG_enough f g _ _ (by rw [List.length_drop]; omega) (by omega)]
theorem pathL_one (ls : List (List Int)) (i : Nat) (h : ls.length ≤ 1) : pathL ls i = [] := by
  unfold pathL
  cases hl : ls.length with
  | zero => rfl
  | succ n => rw [pathG, if_pos h]
theorem pathL_left (ls : List (List Int)) (i : Nat) (h : 2 ≤ ls.length) (hi : i < halfN ls.length) : pathL ls i = pathL (ls.take (halfN ls.length)) i ++ [rootL (ls.drop (halfN ls.length))] := by
  obtain ⟨a, b, -⟩ := halfN_spec ls.length h
  obtain ⟨n, hn⟩ : ∃ n, ls.length = n + 1 := ⟨ls.length - 1, by omega⟩
  have e : pathL ls i = pathG (n + 1) ls i := by unfold pathL; rw [hn]
  rw [e, pathG, if_neg (by omega), if_pos hi]
  unfold pathL
  rw [pathG_enough _ n (ls.take (halfN ls.length)) i (Nat.le_refl _) (by rw [List.length_take]; omega)]
theorem pathL_right (ls : List (List Int)) (i : Nat) (h : 2 ≤ ls.length) (hi : ¬ i < halfN ls.length) : pathL ls i = pathL (ls.drop (halfN ls.length)) (i - halfN ls.length) ++ [rootL (ls.take (halfN ls.length))] := by
  obtain ⟨a, b, -⟩ := halfN_spec ls.length h
  obtain ⟨n, hn⟩ : ∃ n, ls.length = n + 1 := ⟨ls.length - 1, by omega⟩
  have e : pathL ls i = pathG (n + 1) ls i := by unfold pathL; rw [hn]
  rw [e, pathG, if_neg (by omega), if_neg hi]
  unfold pathL
  rw [pathG_enough _ n (ls.drop (halfN ls.length)) (i - halfN ls.length) (Nat.le_refl _) (by rw [List.length_drop]; omega)]

/-- Where a path leads; none if its length is wrong. The path backwards: its last key first. -/
def climbR (leaf : List Int) : Nat → Nat → List (List Int) → Option (List Int)
  | _, n, [] => if n = 1 then some leaf else none
  | i, n, last :: r => if n = 1 then none else if i < halfN n then (climbR leaf i (halfN n) r).map (fun x => innerL x last) else (climbR leaf (i - halfN n) (n - halfN n) r).map (fun x => innerL last x)
def climbL (leaf : List Int) (i n : Nat) (path : List (List Int)) : Option (List Int) := climbR leaf i n path.reverse
theorem climbL_nil (leaf : List Int) (i n : Nat) : climbL leaf i n [] = if n = 1 then some leaf else none := by
  unfold climbL
  rw [List.reverse_nil, climbR]
theorem climbL_snoc (leaf : List Int) (i n : Nat) (p : List (List Int)) (last : List Int) : climbL leaf i n (p ++ [last]) = if n = 1 then none else if i < halfN n then (climbL leaf i (halfN n) p).map (fun x => innerL x last) else (climbL leaf (i - halfN n) (n - halfN n) p).map (fun x => innerL last x) := by
  unfold climbL
  rw [List.reverse_append]
  show climbR leaf i n (last :: p.reverse) = _
  rw [climbR]
/-- The path of every leaf leads to the root (P6.4). -/
theorem climb_path : ∀ m, ∀ (ls : List (List Int)) (i : Nat), ls.length ≤ m → i < ls.length → climbL (leafL (ls.getD i [])) i ls.length (pathL ls i) = some (rootL ls)
  | 0, ls, i, h, hi => by omega
  | m + 1, ls, i, h, hi => by
    by_cases h1 : ls.length = 1
    · obtain rfl : i = 0 := by omega
      rw [pathL_one ls 0 (by omega), climbL_nil, if_pos h1, rootL_one ls h1]
    · obtain ⟨a, b, -⟩ := halfN_spec ls.length (by omega)
      have ht : (ls.take (halfN ls.length)).length = halfN ls.length := by rw [List.length_take]; omega
      have hd : (ls.drop (halfN ls.length)).length = ls.length - halfN ls.length := by rw [List.length_drop]
      by_cases hlt : i < halfN ls.length
      · have ih := climb_path m (ls.take (halfN ls.length)) i (by omega) (by omega)
        have eg : (ls.take (halfN ls.length)).getD i [] = ls.getD i [] := by
          simp only [List.getD]
          rw [List.getElem?_take_of_lt hlt]
        rw [ht, eg] at ih
        rw [pathL_left ls i (by omega) hlt, climbL_snoc, if_neg h1, if_pos hlt, ih, rootL_two ls (by omega)]
        rfl
      · have ih := climb_path m (ls.drop (halfN ls.length)) (i - halfN ls.length) (by omega) (by omega)
        have eg : (ls.drop (halfN ls.length)).getD (i - halfN ls.length) [] = ls.getD i [] := by
          simp only [List.getD, List.getElem?_drop]
          rw [show halfN ls.length + (i - halfN ls.length) = i by omega]
        rw [hd, eg] at ih
        rw [pathL_right ls i (by omega) hlt, climbL_snoc, if_neg h1, if_neg hlt, ih, rootL_two ls (by omega)]
        rfl
/-- Does a path lead from a leaf to a root? -/
def verL (root leaf : List Int) (i n : Int) (path : List (List Int)) : Bool := decide (0 ≤ i ∧ i < n) && (climbL (leafL leaf) i.toNat n.toNat path == some root)
theorem ver_path (ls : List (List Int)) (i : Nat) (hi : i < ls.length) : verL (rootL ls) (ls.getD i []) i ls.length (pathL ls i) = true := by
  unfold verL
  rw [Int.toNat_natCast, Int.toNat_natCast, climb_path ls.length ls i (Nat.le_refl _) hi]
  simp
  omega
/-- A path that leads anywhere is short. -/
theorem climb_short (leaf : List Int) : ∀ (p : List (List Int)) (i n e : Nat), n ≤ 2 ^ e → i < n → climbR leaf i n p ≠ none → p.length ≤ e
  | [], i, n, e, h, hi, hc => by simp
  | x :: r, i, n, e, h, hi, hc => by
    rw [climbR] at hc
    by_cases h1 : n = 1
    · rw [if_pos h1] at hc
      exact absurd rfl hc
    · rw [if_neg h1] at hc
      obtain ⟨a, b, d⟩ := halfN_spec n (by omega)
      obtain ⟨j, hj⟩ := halfN_pow n
      obtain ⟨e', rfl⟩ : ∃ e', e = e' + 1 := by
        cases e with
        | zero => simp at h; omega
        | succ e' => exact ⟨e', rfl⟩
      have hje : halfN n ≤ 2 ^ e' := by
        rw [hj] at b ⊢
        have : 2 ^ j < 2 ^ (e' + 1) := by omega
        have := (Nat.pow_lt_pow_iff_right (by decide : 1 < 2)).1 this
        exact Nat.pow_le_pow_right (by decide) (by omega)
      by_cases hlt : i < halfN n
      · rw [if_pos hlt] at hc
        have := climb_short leaf r i (halfN n) e' hje hlt (fun hn => hc (by rw [hn]; rfl))
        simp
        omega
      · rw [if_neg hlt] at hc
        have := climb_short leaf r (i - halfN n) (n - halfN n) e' (by omega) (by omega) (fun hn => hc (by rw [hn]; rfl))
        simp
        omega
theorem climb_long (leaf : List Int) (i n e : Nat) (p : List (List Int)) (h : n ≤ 2 ^ e) (hi : i < n) (hp : e < p.length) : climbL leaf i n p = none := by
  cases hc : climbL leaf i n p with
  | none => rfl
  | some x =>
    have := climb_short leaf p.reverse i n e h hi (by unfold climbL at hc; rw [hc]; simp)
    rw [List.length_reverse] at this
    omega
end Go.Proofs.YtebnlklodokhkaaDoor
