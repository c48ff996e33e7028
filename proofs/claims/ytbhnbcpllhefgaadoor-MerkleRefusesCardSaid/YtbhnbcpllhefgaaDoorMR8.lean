/-
  The contract of the statements' own many.
-/
import Derived.Test.YtbhnbcpllhefgaaDoorMR7
namespace Go.Proofs.YtbhnbcpllhefgaaDoor
open Go.RowKit

/-- Leaves as an argument: as RB, of any length that a memory holds. -/
def RA (w : World) (al : Option Addr) (ls : List (List Int)) : Prop :=
  ∀ i, i < ls.length → ∃ b off ai ci, al = some ⟨b, off, none⟩ ∧ b < w.heap.size ∧ w.cell? ⟨b, off + i, none⟩ = some (.slice ai (ls.getD i []).length ci) ∧ Sl w ai ci (ls.getD i []) ∧ (ls.getD i []).length ≤ ci ∧ (∀ x, x ∈ ls.getD i [] → W8 x) ∧ (ls.getD i []).length ≤ 140737488351232
theorem RA.rb {w : World} {al : Option Addr} {ls : List (List Int)} (h : RA w al ls) (hs : ∀ i, i < ls.length → (ls.getD i []).length ≤ 300) : RB w al ls := fun i hi => by
  obtain ⟨b, off, ai, ci, e, hlt, hc, hsl, hl, h8, -⟩ := h i hi
  exact ⟨b, off, ai, ci, e, hlt, hc, hsl, hl, h8, by have := hs i hi; omega⟩
/-- The bytes of the first leaves. -/
def sumN (ls : List (List Int)) (k : Nat) : Nat := ((ls.take k).map List.length).sum
theorem sumN_next (ls : List (List Int)) (k : Nat) (h : k < ls.length) : sumN ls (k + 1) = sumN ls k + (ls.getD k []).length := by
  unfold sumN
  rw [List.take_succ_eq_append_getElem h, getD_key ls k h, List.map_append, List.sum_append]
  rfl
theorem sumN_mono (ls : List (List Int)) (k m : Nat) (h : k ≤ m) : sumN ls k ≤ sumN ls m := by
  induction m with
  | zero =>
    obtain rfl : k = 0 := by omega
    exact Nat.le_refl _
  | succ m ih =>
    by_cases hk : k ≤ m
    · refine Nat.le_trans (ih hk) ?_
      by_cases hm : m < ls.length
      · rw [sumN_next ls m hm]
        omega
      · unfold sumN
        rw [List.take_of_length_le (by omega), List.take_of_length_le (by omega)]
        exact Nat.le_refl _
    · obtain rfl : k = m + 1 := by omega
      exact Nat.le_refl _
theorem sumN_each (ls : List (List Int)) (i : Nat) (h : i < ls.length) : (ls.getD i []).length ≤ sumN ls ls.length := by
  have h1 := sumN_next ls i h
  have h2 := sumN_mono ls (i + 1) ls.length (by omega)
  omega
theorem sumN_bound (ls : List (List Int)) (hb : ∀ i, i < ls.length → (ls.getD i []).length ≤ 140737488351232) : ∀ k, k ≤ ls.length → sumN ls k ≤ k * 140737488351232
  | 0, _ => by simp [sumN]
  | k + 1, h => by
    have h1 := sumN_next ls k (by omega)
    have h2 := sumN_bound ls hb k (by omega)
    have h3 := hb k (by omega)
    omega

/-- What many answers. -/
def MnB (ls : List (List Int)) (w : World) (e : Ending) (w' : World) : Prop := ∃ b : Bool, e = .returned (.bool b) ∧ (b = false → ls.length ≤ 40 ∧ ∀ i, i < ls.length → (ls.getD i []).length ≤ 300) ∧ w = w'

set_option maxRecDepth 100000 in
set_option maxHeartbeats 4000000 in
theorem many_any (ls : List (List Int)) (al : Option Addr) (c : Nat) (w : World) (hR : RA w al ls) (hn : ls.length ≤ 140737488351232) : Calls Tryd.prog 7 #[.slice al ls.length c] w (MnB ls w) := by
  have HR := Lib.hid hR
  have HNX := Lib.hid (sumN_next ls)
  have HSB := Lib.hid (sumN_bound ls (fun i hi => by obtain ⟨_, _, _, _, _, _, _, _, _, _, h⟩ := hR i hi; exact h))
  have HSE := Lib.hid (sumN_each ls)
  clear hR
  generalize hl : ls.length = n at *
  have HN := Lib.hid hl
  clear hl
  by_cases h40 : n ≤ 40
  · go_enter Tryd.func7, Tryd.ntmps7
    go_wp2_with fail
    go_loopg [3, 10] n (fun g s3 s10 wx => ∃ i z : Nat, i ≤ n ∧ s10 = .int .i64 i ∧ s3 = .int .i64 z ∧ Hid (z = n + sumN ls i) ∧ z ≤ 10000000000000000 ∧ w = wx ∧ n - i = g)
    case atStart => exact ⟨0, n, by omega, by go_num, rfl, Lib.hid (by simp [sumN]), by omega, rfl, rfl⟩
    case round =>
      obtain ⟨i, z, hi, rfl, rfl, hz, hz9, rfl, hgk⟩ := hrel
      by_cases hlt : i < n
      · obtain ⟨b, off, ai, ci, rfl, hb, xc, -, -, -, hlen⟩ := HR.out i (by rw [HN.out]; exact hlt)
        have hx := HNX.out i hlt
        have hsb := HSB.out (i + 1) (by omega)
        have hz2 : z + (ls.getD i []).length = n + sumN ls (i + 1) := by have := hz.out; omega
        have hz3 : z + (ls.getD i []).length ≤ 10000000000000000 := by omega
        have HZ2 := Lib.hid hz2
        clear hx hsb hz2 hz
        generalize (ls.getD i []).length = m at *
        go_wp2_with fail
        go_roundg (n - (i + 1))
        case measure => omega
        case rel => exact ⟨i + 1, z + m, by omega, by go_num, by go_num, HZ2, hz3, rfl, rfl⟩
      · obtain rfl : i = n := by omega
        have hd2 : decide (40 < (i : Int)) = false := decide_eq_false (by omega)
        by_cases h300 : 300 < z
        · have hd : decide (300 < (z : Int)) = true := decide_eq_true (by omega)
          clear hz HNX HSB HSE
          go_wp2_with fail
          go_ret
          exact ⟨true, rfl, (fun h => by cases h), rfl⟩
        · have hd : decide (300 < (z : Int)) = false := decide_eq_false (by omega)
          have hall : ∀ j, j < i → (ls.getD j []).length ≤ 300 := fun j hj => by
            have h1 := HSE.out j hj
            have h2 := hz.out
            omega
          have HALL := Lib.hid hall
          clear hz HNX HSB HSE hall
          go_wp2_with fail
          go_ret
          exact ⟨false, rfl, fun _ => ⟨by rw [HN.out]; exact h40, fun j hj => HALL.out j (by rw [HN.out] at hj; exact hj)⟩, rfl⟩
  · have hd2 : decide (40 < (n : Int)) = true := decide_eq_true (by omega)
    go_enter Tryd.func7, Tryd.ntmps7
    go_wp2_with fail
    go_loopg [3, 10] n (fun g s3 s10 wx => ∃ (i : Nat) (z : Int), i ≤ n ∧ s10 = .int .i64 i ∧ s3 = .int .i64 z ∧ w = wx ∧ n - i = g)
    case atStart => exact ⟨0, n, by omega, by go_num, rfl, rfl, rfl⟩
    case round =>
      obtain ⟨i, z, hi, rfl, rfl, rfl, hgk⟩ := hrel
      by_cases hlt : i < n
      · obtain ⟨b, off, ai, ci, rfl, hb, xc, -, -, -, hlen⟩ := HR.out i (by rw [HN.out]; exact hlt)
        generalize (ls.getD i []).length = m at *
        go_wp2_with fail
        go_roundg (n - (i + 1))
        case measure => omega
        case rel => exact ⟨i + 1, _, by omega, by go_num, rfl, rfl, rfl⟩
      · obtain rfl : i = n := by omega
        by_cases h300 : 300 < z
        · have hd : decide (300 < z) = true := decide_eq_true h300
          go_wp2_with fail
          go_ret
          exact ⟨true, rfl, (fun h => by cases h), rfl⟩
        · have hd : decide (300 < z) = false := decide_eq_false h300
          go_wp2_with fail
          go_ret
          exact ⟨true, rfl, (fun h => by cases h), rfl⟩
end Go.Proofs.YtbhnbcpllhefgaaDoor
