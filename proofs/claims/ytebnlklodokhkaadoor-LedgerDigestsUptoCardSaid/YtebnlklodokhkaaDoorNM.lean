/-
  Sums: math/bits.Add64, money.Add and Sum, the reference's Add; 'append' up to the greatest row.
-/
import Derived.Test.YtebnlklodokhkaaDoorNC
import Derived.Laws.Externs
import Derived.Laws.Bits64b
import Derived.Laws.MathBits
import Derived.RowKit3
namespace Go.Proofs.YtebnlklodokhkaaDoor.Lg
open Go.RowKit
set_option linter.unusedSimpArgs false
set_option linter.unusedVariables false

/-- math/bits.Add64 with carry 0. -/
theorem add64_0 (x y : Int) (hx : 0 ≤ x) (hy : 0 ≤ y) (w : World) : (callFunc 67 #[.int .u64 x, .int .u64 y, .int .u64 0]).run Tryd.prog w =
    .ok (.value (.tuple #[.int .u64 ((x + y) % 18446744073709551616), .int .u64 ((x + y) / 18446744073709551616)])) w := by
  rw [run_callFunc_extern Tryd.func67 (by kernel_rfl) (by kernel_rfl) (by kernel_rfl) (e := add64Entry) (by kernel_rfl), run_add64 x y 0 hx hy (by omega) (by omega)]
  simp only [Result.andThen, Int.add_zero]

def addB (a b : Int) : Bool := decide (a + b < 18446744073709551616)
def addV (a b : Int) : Int := if a + b < 18446744073709551616 then a + b else 0
theorem money_add (a b : Int) (w : World) (ha : W64 a) (hb : W64 b) :
    Calls Tryd.prog 51 #[.int .u64 a, .int .u64 b] w fun e w' => e = .returned (.tuple #[.int .u64 (addV a b), .bool (addB a b)]) ∧ w = w' := by
  obtain ⟨a0, a1⟩ := ha; obtain ⟨b0, b1⟩ := hb
  have hL := add64_0 a b a0 b0
  by_cases h : a + b < 18446744073709551616
  · have e1 : addV a b = a + b := if_pos h
    have e2 : addB a b = true := decide_eq_true h
    have q1 : (a + b) % 18446744073709551616 = a + b := by omega
    have q2 : (a + b) / 18446744073709551616 = 0 := by omega
    simp only [q1, q2] at hL
    rw [e1, e2]
    clear e1 e2 q1 q2
    go_enter Tryd.func51, Tryd.ntmps51
    go_wp2_with (simp only [hL])
    go_ret2
    exact ⟨rfl, rfl⟩
  · have e1 : addV a b = 0 := if_neg h
    have e2 : addB a b = false := decide_eq_false h
    have q2 : (a + b) / 18446744073709551616 = 1 := by omega
    simp only [q2] at hL
    rw [e1, e2]
    clear e1 e2 q2
    go_enter Tryd.func51, Tryd.ntmps51
    go_wp2_with (simp only [hL])
    go_ret2
    exact ⟨rfl, rfl⟩

theorem ref_add (a b : Int) (w : World) (ha : W64 a) (hb : W64 b) :
    Calls Tryd.prog 52 #[.int .u64 a, .int .u64 b] w fun e w' => e = .returned (.tuple #[.int .u64 (addV a b), .bool (addB a b)]) ∧ w = w' := by
  obtain ⟨a0, a1⟩ := ha; obtain ⟨b0, b1⟩ := hb
  by_cases h : a + b < 18446744073709551616
  · have e1 : addV a b = a + b := if_pos h
    have e2 : addB a b = true := decide_eq_true h
    have h' : ¬ (18446744073709551615 - b < a) := by omega
    rw [e1, e2]
    clear e1 e2
    go_enter Tryd.func52, Tryd.ntmps52
    go_wp2
    go_ret2
    exact ⟨rfl, rfl⟩
  · have e1 : addV a b = 0 := if_neg h
    have e2 : addB a b = false := decide_eq_false h
    have h' : 18446744073709551615 - b < a := by omega
    rw [e1, e2]
    clear e1 e2
    go_enter Tryd.func52, Tryd.ntmps52
    go_wp2
    go_ret2
    exact ⟨rfl, rfl⟩

/-- The exact sum. -/
def tot (l : List Int) : Int := l.foldl (· + ·) 0
def sumB (l : List Int) : Bool := decide (tot l < 18446744073709551616)
def sumV (l : List Int) : Int := if tot l < 18446744073709551616 then tot l else 0

theorem tot_add (l : List Int) : ∀ a : Int, l.foldl (· + ·) a = a + tot l := by
  induction l with
  | nil => intro a; simp [tot]
  | cons x l ih =>
    intro a
    have h1 := ih (a + x)
    have h2 := ih (0 + x)
    simp only [tot, List.foldl_cons] at *
    omega
theorem tot_cons (x : Int) (l : List Int) : tot (x :: l) = x + tot l := by
  have := tot_add l (0 + x)
  simp only [tot, List.foldl_cons] at *
  omega
theorem tot_append (l r : List Int) : tot (l ++ r) = tot l + tot r := by
  induction l with
  | nil => simp [tot]
  | cons x l ih => rw [List.cons_append, tot_cons, tot_cons, ih]; omega
theorem tot_succ (l : List Int) (k : Nat) (h : k < l.length) : tot (l.take (k + 1)) = tot (l.take k) + l.getD k 0 := by
  rw [List.take_succ_eq_append_getElem h, tot_append, List.getD_eq_getElem?_getD, List.getElem?_eq_getElem h, tot_cons]
  simp [tot]
theorem tot_nonneg (l : List Int) : (∀ x, x ∈ l → 0 ≤ x) → 0 ≤ tot l := by
  induction l with
  | nil => intro _; simp [tot]
  | cons x l ih =>
    intro h
    rw [tot_cons]
    have := ih (fun y hy => h y (List.mem_cons_of_mem _ hy))
    have := h x (List.mem_cons_self ..)
    omega
theorem mem_bound (l : List Int) (hw : ∀ k, k < l.length → W64 (l.getD k 0)) (x : Int) (hx : x ∈ l) : W64 x := by
  obtain ⟨j, hj, rfl⟩ := List.getElem_of_mem hx
  have := hw j hj
  rw [List.getD_eq_getElem?_getD, List.getElem?_eq_getElem hj] at this
  exact this
theorem tot_take_le (l : List Int) (hw : ∀ k, k < l.length → W64 (l.getD k 0)) (k : Nat) : tot (l.take k) ≤ tot l := by
  have h := tot_append (l.take k) (l.drop k)
  rw [List.take_append_drop] at h
  have := tot_nonneg (l.drop k) (fun x hx => (mem_bound l hw x (List.mem_of_mem_drop hx)).1)
  omega

set_option maxHeartbeats 1000000 in
theorem money_sum (a : Option Addr) (cap : Nat) (l : List Int) (w : World) (hl : l.length ≤ 9223372036854775807) (hc : ∀ k, k < l.length → ∃ b off, a = some ⟨b, off, none⟩ ∧ w.cell? ⟨b, off + k, none⟩ = some (.int .u64 (l.getD k 0))) (hw : ∀ k, k < l.length → W64 (l.getD k 0)) :
    Calls Tryd.prog 30 #[.slice a l.length cap] w fun e w' => e = .returned (.tuple #[.int .u64 (sumV l), .bool (sumB l)]) ∧ w = w' := by
  go_enter Tryd.func30, Tryd.ntmps30
  go_wp2_with fail
  go_loopg [4, 11] l.length (fun g s4 s11 wx => w = wx ∧ ∃ k : Nat, k ≤ l.length ∧ s4 = .int .u64 (tot (l.take k)) ∧ s11 = .int .i64 k ∧ l.length - k = g ∧ Hid (tot (l.take k) < 18446744073709551616))
  case atStart => exact ⟨rfl, 0, by omega, rfl, rfl, rfl, Lib.hid (by simp [tot])⟩
  case round =>
    obtain ⟨rfl, k, hk, rfl, rfl, rfl, ht⟩ := hrel
    by_cases hlt : k < l.length
    · obtain ⟨b, off, ea, hcell⟩ := hc k hlt
      have hx := hw k hlt
      have hts := tot_succ l k hlt
      have ht0 := tot_nonneg (l.take k) (fun x hx => (mem_bound l hw x (List.mem_of_mem_take hx)).1)
      have hA := fun w => money_add (tot (l.take k)) (l.getD k 0) w ⟨ht0, by have := ht.out; omega⟩ hx
      have hle := tot_take_le l hw (k + 1)
      obtain ⟨x, hxe⟩ : ∃ x, l.getD k 0 = x := ⟨_, rfl⟩
      obtain ⟨t, hte⟩ : ∃ t, tot (l.take k) = t := ⟨_, rfl⟩
      rw [hxe] at hcell hx hts hA
      rw [hte] at hts hA ht0 ht
      rw [hts] at hle
      rw [hte]
      subst ea
      clear hxe hte hc hw
      by_cases hs : t + x < 18446744073709551616
      · have e1 : addV t x = t + x := if_pos hs
        have e2 : addB t x = true := decide_eq_true hs
        rw [e1, e2] at hA
        have HS := Lib.hid hts
        have hs' := Lib.hid hs
        clear e1 e2 hts hle
        go_wp2_with (go_at_call 51; refine (hA _).mono ?_; rintro e w' ⟨rfl, rfl⟩)
        go_roundg (l.length - (k + 1))
        case measure => omega
        case rel => exact ⟨rfl, k + 1, by omega, by rw [HS.out], by first | rfl | go_num, rfl, by rw [HS.out]; exact hs'⟩
      · have e1 : addV t x = 0 := if_neg hs
        have e2 : addB t x = false := decide_eq_false hs
        rw [e1, e2] at hA
        have f1 := Lib.hid (show sumV l = 0 from if_neg (by omega))
        have f2 := Lib.hid (show sumB l = false from decide_eq_false (by omega))
        clear e1 e2 hts hle
        go_wp2_with (go_at_call 51; refine (hA _).mono ?_; rintro e w' ⟨rfl, rfl⟩)
        go_ret2
        exact ⟨by rw [f1.out, f2.out]; rfl, rfl⟩
    · obtain rfl : k = l.length := by omega
      rw [List.take_length] at ht ⊢
      have f1 := Lib.hid (show sumV l = tot l from if_pos ht.out)
      have f2 := Lib.hid (show sumB l = true from decide_eq_true ht.out)
      clear hc hw
      go_wp2_with fail
      go_ret2
      exact ⟨by rw [f1.out, f2.out]; rfl, rfl⟩

section
variable {P : Program} {t e s bytes : Nat} {z : Value}
/-- The same up to the greatest row. -/
theorem append_big (hu : P.underlying t = some (.slice e)) (hinfo : (P.info? e).map (fun i => (i.zero, i.size, i.bytes)) = some (some z, s, bytes)) (hzs : z.cells.size = s) (hs : 0 < s) 
    {w : World} {B n m : Nat} {v : Value} {xs : List Value} (hO : w.ownsRow B e s v n xs) (pa : Option Addr) (cp : Nat) (ys : List Value) (hP : Cs w pa ys) (hl : ys.length = m * s) (h1 : ∀ u ∈ ys, u.oneCell' = true) (hB : B ≤ w.heap.size) (hby : 0 < bytes) (hn : (n + m) * bytes ≤ 140737488355328) :
    ∃ v' w', (Builtin.append_ #[t, t] t #[v, .slice pa m cp]).run P w = .ok v' w' ∧ w'.ownsRow B e s v' (n + m) (xs ++ ys) ∧ Below B w w' ∧ w.grownBy w' v.ownBlock ∧ (v'.ownBlock = v.ownBlock ∨ v'.ownBlock = some w.heap.size) := by
  obtain ⟨i0, hi, hz0, hz1, hz2⟩ := info_parts hinfo
  by_cases hy : ys = []
  · subst hy
    obtain rfl : m = 0 := by
      rcases Nat.eq_zero_or_pos m with h | h
      · exact h
      · have := Nat.mul_pos h hs
        rw [← hl] at this
        simp at this
    cases pa with
    | none =>
      refine ⟨v, w, ?_, by simpa using hO, Below.refl _ _, World.grownBy.refl w _, .inl rfl⟩
      rcases hO.2 with ⟨rfl, h0⟩ | ⟨g, cap, cur, rfl, _, _, hnc, _⟩
      · simp [Builtin.append_, run_underlying hu, sizeOf, typeInfo, hi, Builtin.lenOf, Builtin.firstCells]
      · simp [Builtin.append_, run_underlying hu, sizeOf, typeInfo, hi, Builtin.lenOf, Builtin.firstCells, hnc, storeCells]
    | some x =>
      obtain ⟨v', w', hr, h2, h3, -, h4⟩ := run_append_own_at (P := P) w B t t e i0 z s bytes hu hi hz0 hz1 hz2 hzs hs v n xs hO x 0 cp [] (by simp) (fun j u h => by simp at h) (by simp) (by unfold maxLen; have := Nat.le_mul_of_pos_right (n + 0) hby; omega) hn hB
      exact ⟨v', w', hr, h2, (Below.refl _ w).grown h3 hB (fun j hj => (hO.lt j hj).1), h3, h4⟩
  · obtain ⟨y, hy0⟩ : ∃ y, ys[0]? = some y := by
      cases ys with
      | nil => exact absurd rfl hy
      | cons y r => exact ⟨y, rfl⟩
    obtain ⟨b, off, rfl, -⟩ := hP 0 y hy0
    have hcells : ∀ j u, ys[j]? = some u → w.cell? ((⟨b, off, none⟩ : Addr).add j) = some u := fun j u hu => by
      obtain ⟨b2, off2, e2, -, hc⟩ := hP j u hu
      simp only [Option.some.injEq, Addr.mk.injEq, and_true] at e2
      obtain ⟨rfl, rfl⟩ := e2
      rw [Addr.add_mid]
      exact hc
    obtain ⟨v', w', hr, h2, h3, -, h4⟩ := run_append_own_at (P := P) w B t t e i0 z s bytes hu hi hz0 hz1 hz2 hzs hs v n xs hO ⟨b, off, none⟩ m cp ys hl hcells h1 (by unfold maxLen; have := Nat.le_mul_of_pos_right (n + m) hby; omega) hn hB
    exact ⟨v', w', hr, h2, (Below.refl _ w).grown h3 hB (fun j hj => (hO.lt j hj).1), h3, h4⟩
end
theorem bals_at (A : List Ac) (k : Nat) (h : k < A.length) : (A.map (·.2.1)).getD k 0 = (aca A k).2.1 := by
  rw [List.getD_eq_getElem?_getD, List.getElem?_map, List.getElem?_eq_getElem h]
  unfold aca
  rw [List.getD_eq_getElem?_getD, List.getElem?_eq_getElem h]
  rfl
end Go.Proofs.YtebnlklodokhkaaDoor.Lg
