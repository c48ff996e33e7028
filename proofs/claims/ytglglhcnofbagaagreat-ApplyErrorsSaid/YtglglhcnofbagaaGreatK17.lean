/-
  Sums: math/bits.Add64, money.Add and Sum, the reference's Add; 'append' up to the greatest row. Ledgers as plain data: totals, validity, the place of a name, what is put in. strings.Compare, slices.BinarySearchFunc, the program's place; the reference's Find: contracts.
-/
import Derived.Test.YtglglhcnofbagaaGreatK16
import Derived.Laws.Externs
import Derived.Laws.Bits64b
import Derived.Laws.MathBits
import Derived.RowKit3
namespace Go.Proofs.YtglglhcnofbagaaGreat.Lg
set_option maxRecDepth 100000
open Go.RowKit
set_option linter.unusedSimpArgs false
set_option linter.unusedVariables false

/-- math/bits.Add64 with carry 0. -/
theorem add64_0 (x y : Int) (hx : 0 ≤ x) (hy : 0 ≤ y) (w : World) : (callFunc 113 #[.int .u64 x, .int .u64 y, .int .u64 0]).run Tryz.prog w =
  .ok (.value (.tuple #[.int .u64 ((x + y) % 18446744073709551616), .int .u64 ((x + y) / 18446744073709551616)])) w := by
 rw [run_callFunc_extern Tryz.func113 (by kernel_rfl) (by kernel_rfl) (by kernel_rfl) (e := add64Entry) (by kernel_rfl), run_add64 x y 0 hx hy (by omega) (by omega)]
 simp only [Result.andThen, Int.add_zero]

def addB (a b : Int) : Bool := decide (a + b < 18446744073709551616)
def addV (a b : Int) : Int := if a + b < 18446744073709551616 then a + b else 0
theorem money_add (a b : Int) (w : World) (ha : W64 a) (hb : W64 b) :
  Calls Tryz.prog 104 #[.int .u64 a, .int .u64 b] w fun e w' => e = .returned (.tuple #[.int .u64 (addV a b), .bool (addB a b)]) ∧ w = w' := by
 obtain ⟨a0, a1⟩ := ha; obtain ⟨b0, b1⟩ := hb
 have hL := add64_0 a b a0 b0
 by_cases h : a + b < 18446744073709551616
 ·have e1 : addV a b = a + b := if_pos h
  have e2 : addB a b = true := decide_eq_true h
  have q1 : (a + b) % 18446744073709551616 = a + b := by omega
  have q2 : (a + b) / 18446744073709551616 = 0 := by omega
  simp only [q1, q2] at hL
  rw [e1, e2]
  clear e1 e2 q1 q2
  go_enter Tryz.func104, Tryz.ntmps104
  go_wp2_with (simp only [hL])
  go_ret2
  exact ⟨rfl, rfl⟩
 ·have e1 : addV a b = 0 := if_neg h
  have e2 : addB a b = false := decide_eq_false h
  have q2 : (a + b) / 18446744073709551616 = 1 := by omega
  simp only [q2] at hL
  rw [e1, e2]
  clear e1 e2 q2
  go_enter Tryz.func104, Tryz.ntmps104
  go_wp2_with (simp only [hL])
  go_ret2
  exact ⟨rfl, rfl⟩

theorem ref_add (a b : Int) (w : World) (ha : W64 a) (hb : W64 b) :
  Calls Tryz.prog 45 #[.int .u64 a, .int .u64 b] w fun e w' => e = .returned (.tuple #[.int .u64 (addV a b), .bool (addB a b)]) ∧ w = w' := by
 obtain ⟨a0, a1⟩ := ha; obtain ⟨b0, b1⟩ := hb
 by_cases h : a + b < 18446744073709551616
 ·have e1 : addV a b = a + b := if_pos h
  have e2 : addB a b = true := decide_eq_true h
  have h' : ¬ (18446744073709551615 - b < a) := by omega
  rw [e1, e2]
  clear e1 e2
  go_enter Tryz.func45, Tryz.ntmps45
  go_wp2
  go_ret2
  exact ⟨rfl, rfl⟩
 ·have e1 : addV a b = 0 := if_neg h
  have e2 : addB a b = false := decide_eq_false h
  have h' : 18446744073709551615 - b < a := by omega
  rw [e1, e2]
  clear e1 e2
  go_enter Tryz.func45, Tryz.ntmps45
  go_wp2
  go_ret2
  exact ⟨rfl, rfl⟩

/-- The exact sum. -/
def tot (l : List Int) : Int := l.foldl (· + ·) 0
def sumB (l : List Int) : Bool := decide (tot l < 18446744073709551616)
def sumV (l : List Int) : Int := if tot l < 18446744073709551616 then tot l else 0

theorem tot_add (l : List Int) : ∀ a : Int, l.foldl (· + ·) a = a + tot l := by
 induction l with
 | nil => intro a; simp [tot]
 | cons x l ih =>
  intro a
  have h1 := ih (a + x)
  have h2 := ih (0 + x)
  simp only [tot, List.foldl_cons] at *
  omega
theorem tot_cons (x : Int) (l : List Int) : tot (x :: l) = x + tot l := by
 have := tot_add l (0 + x)
 simp only [tot, List.foldl_cons] at *
 omega
theorem tot_append (l r : List Int) : tot (l ++ r) = tot l + tot r := by
 induction l with
 | nil => simp [tot]
 | cons x l ih => rw [List.cons_append, tot_cons, tot_cons, ih]; omega
theorem tot_succ (l : List Int) (k : Nat) (h : k < l.length) : tot (l.take (k + 1)) = tot (l.take k) + l.getD k 0 := by
 rw [List.take_succ_eq_append_getElem h, tot_append, List.getD_eq_getElem?_getD, List.getElem?_eq_getElem h, tot_cons]
 simp [tot]
theorem tot_nonneg (l : List Int) : (∀ x, x ∈ l → 0 ≤ x) → 0 ≤ tot l := by
 induction l with
 | nil => intro _; simp [tot]
 | cons x l ih =>
  intro h
  rw [tot_cons]
  have := ih (fun y hy => h y (List.mem_cons_of_mem _ hy))
  have := h x (List.mem_cons_self ..)
  omega
theorem mem_bound (l : List Int) (hw : ∀ k, k < l.length → W64 (l.getD k 0)) (x : Int) (hx : x ∈ l) : W64 x := by
 obtain ⟨j, hj, rfl⟩ := List.getElem_of_mem hx
 have := hw j hj
 rw [List.getD_eq_getElem?_getD, List.getElem?_eq_getElem hj] at this
 exact this
theorem tot_take_le (l : List Int) (hw : ∀ k, k < l.length → W64 (l.getD k 0)) (k : Nat) : tot (l.take k) ≤ tot l := by
 have h := tot_append (l.take k) (l.drop k)
 rw [List.take_append_drop] at h
 have := tot_nonneg (l.drop k) (fun x hx => (mem_bound l hw x (List.mem_of_mem_drop hx)).1)
 omega

set_option maxHeartbeats 1000000 in
theorem money_sum (a : Option Addr) (cap : Nat) (l : List Int) (w : World) (hl : l.length ≤ 9223372036854775807) (hc : ∀ k, k < l.length → ∃ b off, a = some ⟨b, off, none⟩ ∧ w.cell? ⟨b, off + k, none⟩ = some (.int .u64 (l.getD k 0))) (hw : ∀ k, k < l.length → W64 (l.getD k 0)) :
  Calls Tryz.prog 95 #[.slice a l.length cap] w fun e w' => e = .returned (.tuple #[.int .u64 (sumV l), .bool (sumB l)]) ∧ w = w' := by
 go_enter Tryz.func95, Tryz.ntmps95
 go_wp2_with fail
 go_loopg [4, 11] l.length (fun g s4 s11 wx => w = wx ∧ ∃ k : Nat, k ≤ l.length ∧ s4 = .int .u64 (tot (l.take k)) ∧ s11 = .int .i64 k ∧ l.length - k = g ∧ Hid (tot (l.take k) < 18446744073709551616))
 case atStart => exact ⟨rfl, 0, by omega, rfl, rfl, rfl, Lib.hid (by simp [tot])⟩
 case round =>
  obtain ⟨rfl, k, hk, rfl, rfl, rfl, ht⟩ := hrel
  by_cases hlt : k < l.length
  ·obtain ⟨b, off, ea, hcell⟩ := hc k hlt
   have hx := hw k hlt
   have hts := tot_succ l k hlt
   have ht0 := tot_nonneg (l.take k) (fun x hx => (mem_bound l hw x (List.mem_of_mem_take hx)).1)
   have hA := fun w => money_add (tot (l.take k)) (l.getD k 0) w ⟨ht0, by have := ht.out; omega⟩ hx
   have hle := tot_take_le l hw (k + 1)
   obtain ⟨x, hxe⟩ : ∃ x, l.getD k 0 = x := ⟨_, rfl⟩
   obtain ⟨t, hte⟩ : ∃ t, tot (l.take k) = t := ⟨_, rfl⟩
   rw [hxe] at hcell hx hts hA
   rw [hte] at hts hA ht0 ht
   rw [hts] at hle
   rw [hte]
   subst ea
   clear hxe hte hc hw
   by_cases hs : t + x < 18446744073709551616
   ·have e1 : addV t x = t + x := if_pos hs
    have e2 : addB t x = true := decide_eq_true hs
    rw [e1, e2] at hA
    have HS := Lib.hid hts
    have hs' := Lib.hid hs
    clear e1 e2 hts hle
    go_wp2_with (go_at_call 104; refine (hA _).mono ?_; rintro e w' ⟨rfl, rfl⟩)
    go_roundg (l.length - (k + 1))
    case measure => omega
    case rel => exact ⟨rfl, k + 1, by omega, by rw [HS.out], by first | rfl | go_num, rfl, by rw [HS.out]; exact hs'⟩
   ·have e1 : addV t x = 0 := if_neg hs
    have e2 : addB t x = false := decide_eq_false hs
    rw [e1, e2] at hA
    have f1 := Lib.hid (show sumV l = 0 from if_neg (by omega))
    have f2 := Lib.hid (show sumB l = false from decide_eq_false (by omega))
    clear e1 e2 hts hle
    go_wp2_with (go_at_call 104; refine (hA _).mono ?_; rintro e w' ⟨rfl, rfl⟩)
    go_ret2
    exact ⟨by rw [f1.out, f2.out]; rfl, rfl⟩
  ·obtain rfl : k = l.length := by omega
   rw [List.take_length] at ht ⊢
   have f1 := Lib.hid (show sumV l = tot l from if_pos ht.out)
   have f2 := Lib.hid (show sumB l = true from decide_eq_true ht.out)
   clear hc hw
   go_wp2_with fail
   go_ret2
   exact ⟨by rw [f1.out, f2.out]; rfl, rfl⟩

section
variable {P : Program} {t e s bytes : Nat} {z : Value}
/-- The same up to the greatest row. -/
theorem append_big (hu : P.underlying t = some (.slice e)) (hinfo : (P.info? e).map (fun i => (i.zero, i.size, i.bytes)) = some (some z, s, bytes)) (hzs : z.cells.size = s) (hs : 0 < s)
  {w : World} {B n m : Nat} {v : Value} {xs : List Value} (hO : w.ownsRow B e s v n xs) (pa : Option Addr) (cp : Nat) (ys : List Value) (hP : Cs w pa ys) (hl : ys.length = m * s) (h1 : ∀ u ∈ ys, u.oneCell' = true) (hB : B ≤ w.heap.size) (hby : 0 < bytes) (hn : (n + m) * bytes ≤ 140737488355328) :
  ∃ v' w', (Builtin.append_ #[t, t] t #[v, .slice pa m cp]).run P w = .ok v' w' ∧ w'.ownsRow B e s v' (n + m) (xs ++ ys) ∧ Below B w w' ∧ w.grownBy w' v.ownBlock ∧ (v'.ownBlock = v.ownBlock ∨ v'.ownBlock = some w.heap.size) := by
 obtain ⟨i0, hi, hz0, hz1, hz2⟩ := info_parts hinfo
 by_cases hy : ys = []
 ·subst hy
  obtain rfl : m = 0 := by
   rcases Nat.eq_zero_or_pos m with h | h
   ·exact h
   ·have := Nat.mul_pos h hs
    rw [← hl] at this
    simp at this
  cases pa with
  | none =>
   refine ⟨v, w, ?_, by simpa using hO, Below.refl _ _, World.grownBy.refl w _, .inl rfl⟩
   rcases hO.2 with ⟨rfl, h0⟩ | ⟨g, cap, cur, rfl, _, _, hnc, _⟩
   ·simp [Builtin.append_, run_underlying hu, sizeOf, typeInfo, hi, Builtin.lenOf, Builtin.firstCells]
   ·simp [Builtin.append_, run_underlying hu, sizeOf, typeInfo, hi, Builtin.lenOf, Builtin.firstCells, hnc, storeCells]
  | some x =>
   obtain ⟨v', w', hr, h2, h3, -, h4⟩ := run_append_own_at (P := P) w B t t e i0 z s bytes hu hi hz0 hz1 hz2 hzs hs v n xs hO x 0 cp [] (by simp) (fun j u h => by simp at h) (by simp) (by unfold maxLen; have := Nat.le_mul_of_pos_right (n + 0) hby; omega) hn hB
   exact ⟨v', w', hr, h2, (Below.refl _ w).grown h3 hB (fun j hj => (hO.lt j hj).1), h3, h4⟩
 ·obtain ⟨y, hy0⟩ : ∃ y, ys[0]? = some y := by
   cases ys with
   | nil => exact absurd rfl hy
   | cons y r => exact ⟨y, rfl⟩
  obtain ⟨b, off, rfl, -⟩ := hP 0 y hy0
  have hcells : ∀ j u, ys[j]? = some u → w.cell? ((⟨b, off, none⟩ : Addr).add j) = some u := fun j u hu => by
   obtain ⟨b2, off2, e2, -, hc⟩ := hP j u hu
   simp only [Option.some.injEq, Addr.mk.injEq, and_true] at e2
   obtain ⟨rfl, rfl⟩ := e2
   rw [Addr.add_mid]
   exact hc
  obtain ⟨v', w', hr, h2, h3, -, h4⟩ := run_append_own_at (P := P) w B t t e i0 z s bytes hu hi hz0 hz1 hz2 hzs hs v n xs hO ⟨b, off, none⟩ m cp ys hl hcells h1 (by unfold maxLen; have := Nat.le_mul_of_pos_right (n + m) hby; omega) hn hB
  exact ⟨v', w', hr, h2, (Below.refl _ w).grown h3 hB (fun j hj => (hO.lt j hj).1), h3, h4⟩
end
theorem bals_at (A : List Ac) (k : Nat) (h : k < A.length) : (A.map (·.2.1)).getD k 0 = (aca A k).2.1 := by
 rw [List.getD_eq_getElem?_getD, List.getElem?_map, List.getElem?_eq_getElem h]
 unfold aca
 rw [List.getD_eq_getElem?_getD, List.getElem?_eq_getElem h]
 rfl
end Go.Proofs.YtglglhcnofbagaaGreat.Lg
namespace Go.Proofs.YtglglhcnofbagaaGreat.Lg
set_option maxRecDepth 100000
open Go.RowKit
set_option linter.unusedSimpArgs false
set_option linter.unusedVariables false

def bals (A : List Ac) : List Int := A.map (·.2.1)
def totB (A : List Ac) (c : Int) : Bool := sumB (c :: bals A)
def totV (A : List Ac) (c : Int) : Int := sumV (c :: bals A)
def totE (A : List Ac) (c : Int) : Int := if totB A c = true then 0 else 6
/-- The first account with this name, the first one that is not less. -/
def fndL (A : List Ac) (s : ByteArray) : Nat := A.findIdx (fun x => decide (x.1 = s))
def lesL (A : List Ac) (s : ByteArray) : Nat := A.findIdx (fun x => !ltS x.1 s)
def putL (A : List Ac) (a : Ac) : List Ac := if fndL A a.1 < A.length then A.set (fndL A a.1) a else A.take (lesL A a.1) ++ a :: A.drop (lesL A a.1)
def stpE (A : List Ac) (i : Nat) : Int :=
 if isName (nums (aca A i).1) = false then 10
 else if 0 < i ∧ (aca A (i - 1)).1 = (aca A i).1 then 8
 else if 0 < i ∧ ltS (aca A i).1 (aca A (i - 1)).1 = true then 1
 else 0
/-- The first that is not 0. -/
def frE (f : Nat → Int) : Nat → Int
 | 0 => 0
 | n + 1 => if frE f n ≠ 0 then frE f n else f n
theorem frE_ok {f : Nat → Int} : ∀ {n : Nat}, (∀ j, j < n → f j = 0) → frE f n = 0
 | 0, _ => rfl
 | n + 1, h => by
  unfold frE
  rw [frE_ok (n := n) (fun j hj => h j (by omega)), if_neg (by simp)]
  exact h n (by omega)
theorem frE_all {f : Nat → Int} : ∀ {n : Nat}, frE f n = 0 → ∀ j, j < n → f j = 0
 | 0, _, j, hj => by omega
 | n + 1, h, j, hj => by
  unfold frE at h
  by_cases h1 : frE f n = 0
  ·rw [h1, if_neg (by simp)] at h
   rcases Nat.lt_or_ge j n with h2 | h2
   ·exact frE_all h1 j h2
   ·have : j = n := by omega
    subst this; exact h
  ·rw [if_pos h1] at h
   exact absurd h h1
theorem frE_err {f : Nat → Int} {i : Nat} : ∀ {n : Nat}, i < n → (∀ j, j < i → f j = 0) → f i ≠ 0 → frE f n = f i
 | 0, hi, _, _ => by omega
 | n + 1, hi, h, he => by
  unfold frE
  rcases Nat.lt_or_ge i n with h1 | h1
  ·have e := frE_err h1 h he
   rw [e, if_pos he]
  ·have : i = n := by omega
   subst this
   rw [frE_ok h, if_neg (by simp)]
def valE (A : List Ac) (c : Int) : Int := if 256 < A.length then 3 else if frE (stpE A) A.length ≠ 0 then frE (stpE A) A.length else totE A c
def Srt (A : List Ac) : Prop := ∀ i j, i < j → j < A.length → ltS (aca A i).1 (aca A j).1 = true
def Nmd (A : List Ac) : Prop := ∀ i, i < A.length → isName (nums (aca A i).1) = true
theorem valE_ok {A : List Ac} {c : Int} (h : valE A c = 0) : A.length ≤ 256 ∧ Srt A ∧ Nmd A ∧ totB A c = true := by
 unfold valE at h
 by_cases h1 : 256 < A.length
 ·rw [if_pos h1] at h; cases h
 rw [if_neg h1] at h
 by_cases h2 : frE (stpE A) A.length = 0
 ·rw [h2, if_neg (by simp)] at h
  have h3 := frE_all h2
  have hn : Nmd A := fun i hi => by
   have := h3 i hi
   unfold stpE at this
   by_cases h4 : isName (nums (aca A i).1) = true
   ·exact h4
   ·rw [if_pos (by simpa using h4)] at this; cases this
  have hs : ∀ i, i + 1 < A.length → ltS (aca A i).1 (aca A (i + 1)).1 = true := fun i hi => by
   have := h3 (i + 1) hi
   unfold stpE at this
   rw [if_neg (by rw [hn (i + 1) hi]; simp), show i + 1 - 1 = i by omega] at this
   by_cases h4 : (aca A i).1 = (aca A (i + 1)).1
   ·rw [if_pos ⟨by omega, h4⟩] at this; cases this
   rw [if_neg (fun q => h4 q.2)] at this
   by_cases h5 : ltS (aca A (i + 1)).1 (aca A i).1 = true
   ·rw [if_pos ⟨by omega, h5⟩] at this; cases this
   exact ltS_tot (by simpa using h5) (fun e => h4 e.symm)
  refine ⟨by omega, fun i j hij hj => ?_, hn, ?_⟩
  ·obtain ⟨d, rfl⟩ : ∃ d, j = i + 1 + d := ⟨j - i - 1, by omega⟩
   clear hij
   induction d with
   | zero => exact hs i hj
   | succ d ih => exact ltS_tr (ih (by omega)) (hs (i + 1 + d) hj)
  ·unfold totE at h
   by_cases h5 : totB A c = true
   ·exact h5
   ·rw [if_neg h5] at h; cases h
 ·rw [if_pos h2] at h
  exact absurd h h2
theorem valE_of {A : List Ac} {c : Int} (h1 : A.length ≤ 256) (h2 : Srt A) (h3 : Nmd A) (h4 : totB A c = true) : valE A c = 0 := by
 unfold valE
 rw [if_neg (by omega), frE_ok, if_neg (by simp)]
 ·unfold totE; rw [if_pos h4]
 intro j hj
 unfold stpE
 rw [if_neg (by rw [h3 j hj]; simp)]
 by_cases h0 : 0 < j
 ·have := h2 (j - 1) j (by omega) hj
  rw [if_neg (fun q => ltS_ne this q.2), if_neg (fun q => by rw [ltS_as this] at q; cases q.2)]
 ·rw [if_neg (fun q => h0 q.1), if_neg (fun q => h0 q.1)]
theorem aca_get {A : List Ac} {i : Nat} (h : i < A.length) : aca A i = A[i] := getD_lt A i _ h
theorem fnd_is {A : List Ac} {s : ByteArray} {i : Nat} (h : i < A.length) (hb : ∀ j, j < i → (aca A j).1 ≠ s) (hi : (aca A i).1 = s) : fndL A s = i := by
 unfold fndL
 rw [List.findIdx_eq h]
 refine ⟨by rw [← aca_get h]; exact decide_eq_true hi, fun j hj => ?_⟩
 rw [← aca_get (by omega)]
 exact decide_eq_false (hb j hj)
theorem fnd_no {A : List Ac} {s : ByteArray} (hb : ∀ j, j < A.length → (aca A j).1 ≠ s) : fndL A s = A.length := by
 unfold fndL
 rw [List.findIdx_eq_length]
 intro x hx
 obtain ⟨j, hj, rfl⟩ := List.mem_iff_getElem.1 hx
 rw [← aca_get hj]
 exact decide_eq_false (hb j hj)
theorem fnd_at {A : List Ac} {s : ByteArray} (h : fndL A s < A.length) : (aca A (fndL A s)).1 = s ∧ ∀ j, j < fndL A s → (aca A j).1 ≠ s := by
 refine ⟨?_, fun j hj => ?_⟩
 ·have := List.findIdx_getElem (w := h)
  rw [aca_get h]
  exact of_decide_eq_true this
 ·have := List.not_of_lt_findIdx hj
  rw [aca_get (by omega)]
  simpa using this
theorem fnd_le (A : List Ac) (s : ByteArray) : fndL A s ≤ A.length := List.findIdx_le_length
theorem fnd_not {A : List Ac} {s : ByteArray} (h : ¬ fndL A s < A.length) : ∀ j, j < A.length → (aca A j).1 ≠ s := fun j hj e => by
 have h1 := fnd_le A s
 have h2 : fndL A s = A.length := by omega
 unfold fndL at h2
 rw [List.findIdx_eq_length] at h2
 have := h2 (aca A j) (aca_mem hj)
 exact of_decide_eq_false this e
theorem les_is {A : List Ac} {s : ByteArray} {i : Nat} (h : i ≤ A.length) (hb : ∀ j, j < i → ltS (aca A j).1 s = true) (hi : i < A.length → ltS (aca A i).1 s = false) : lesL A s = i := by
 unfold lesL
 rcases Nat.lt_or_ge i A.length with h1 | h1
 ·rw [List.findIdx_eq h1]
  refine ⟨by rw [← aca_get h1, hi h1]; rfl, fun j hj => ?_⟩
  rw [← aca_get (by omega), hb j hj]
  rfl
 ·have : i = A.length := by omega
  subst this
  rw [List.findIdx_eq_length]
  intro x hx
  obtain ⟨j, hj, rfl⟩ := List.mem_iff_getElem.1 hx
  rw [← aca_get hj, hb j hj]
  rfl
theorem les_le (A : List Ac) (s : ByteArray) : lesL A s ≤ A.length := List.findIdx_le_length
theorem les_lt {A : List Ac} {s : ByteArray} {j : Nat} (hj : j < lesL A s) : ltS (aca A j).1 s = true := by
 have h1 := les_le A s
 have := List.not_of_lt_findIdx hj
 rw [aca_get (by omega)]
 simpa using this
theorem les_ge {A : List Ac} {s : ByteArray} (h : lesL A s < A.length) : ltS (aca A (lesL A s)).1 s = false := by
 have this : (!ltS (A[lesL A s]'h).1 s) = true := List.findIdx_getElem (w := h)
 rw [aca_get h]
 revert this
 cases ltS (A[lesL A s]'h).1 s <;> simp
/-- In order: the one found is the first that is not less. -/
theorem srt_fnd {A : List Ac} {s : ByteArray} (h : Srt A) (hf : fndL A s < A.length) : lesL A s = fndL A s := by
 obtain ⟨h1, h2⟩ := fnd_at hf
 refine les_is (fnd_le A s) (fun j hj => ?_) (fun _ => ?_)
 ·have := h j _ hj hf
  rwa [h1] at this
 ·rw [h1, ltS_irr]
theorem srt_les {A : List Ac} {s : ByteArray} (h : Srt A) : (decide (fndL A s < A.length)) = (decide (lesL A s < A.length ∧ (aca A (lesL A s)).1 = s)) := by
 rw [decide_eq_decide]
 constructor
 ·intro hf
  rw [srt_fnd h hf]
  exact ⟨hf, (fnd_at hf).1⟩
 ·rintro ⟨h1, h2⟩
  refine Decidable.byContradiction fun hn => fnd_not hn _ h1 h2
theorem put_found {A : List Ac} {a : Ac} (h : fndL A a.1 < A.length) : putL A a = A.set (fndL A a.1) a := if_pos h
theorem put_new {A : List Ac} {a : Ac} (h : ¬ fndL A a.1 < A.length) : putL A a = A.take (lesL A a.1) ++ a :: A.drop (lesL A a.1) := if_neg h
theorem put_len (A : List Ac) (a : Ac) : (putL A a).length = if fndL A a.1 < A.length then A.length else A.length + 1 := by
 by_cases h : fndL A a.1 < A.length
 ·rw [put_found h, if_pos h, List.length_set]
 ·have := les_le A a.1
  rw [put_new h, if_neg h, List.length_append, List.length_cons, List.length_take, List.length_drop]
  omega
theorem aca_set {A : List Ac} {i j : Nat} {a : Ac} (h : i < A.length) : aca (A.set i a) j = if j = i then a else aca A j := by
 unfold aca
 rw [List.getD_eq_getElem?_getD, List.getElem?_set, List.getD_eq_getElem?_getD]
 by_cases e : j = i
 ·subst e; rw [if_pos rfl, if_pos h, if_pos rfl]; rfl
 ·rw [if_neg (fun q => e q.symm), if_neg e]
theorem aca_ins {A : List Ac} {i j : Nat} {a : Ac} (h : i ≤ A.length) : aca (A.take i ++ a :: A.drop i) j = if j < i then aca A j else if j = i then a else aca A (j - 1) := by
 unfold aca
 have ht : (A.take i).length = i := by rw [List.length_take]; omega
 simp only [List.getD_eq_getElem?_getD]
 by_cases h1 : j < i
 ·rw [if_pos h1, List.getElem?_append_left (by omega), List.getElem?_take, if_pos h1]
 rw [if_neg h1, List.getElem?_append_right (by omega), ht]
 by_cases h2 : j = i
 ·subst h2; rw [if_pos rfl, Nat.sub_self]; rfl
 ·rw [if_neg h2]
  obtain ⟨d, rfl⟩ : ∃ d, j = i + 1 + d := ⟨j - i - 1, by omega⟩
  rw [show i + 1 + d - i = d + 1 by omega, List.getElem?_cons_succ, List.getElem?_drop, show i + 1 + d - 1 = i + d by omega]
theorem put_srt {A : List Ac} {a : Ac} (h : Srt A) : Srt (putL A a) := by
 have hl := put_len A a
 by_cases hf : fndL A a.1 < A.length
 ·rw [if_pos hf] at hl
  intro i j hij hj
  rw [put_found hf, aca_set hf, aca_set hf]
  obtain ⟨h1, -⟩ := fnd_at hf
  by_cases e1 : i = fndL A a.1
  ·subst e1
   rw [if_pos rfl, if_neg (by omega), ← h1]
   exact h _ _ hij (by omega)
  ·rw [if_neg e1]
   by_cases e2 : j = fndL A a.1
   ·subst e2
    rw [if_pos rfl, ← h1]
    exact h _ _ hij (by omega)
   ·rw [if_neg e2]
    exact h _ _ hij (by omega)
 ·rw [if_neg hf] at hl
  have hle := les_le A a.1
  have hge : ∀ k, lesL A a.1 ≤ k → k < A.length → ltS a.1 (aca A k).1 = true := fun k h1 h2 => by
   have hn := fnd_not hf
   have h3 := les_ge (A := A) (s := a.1) (by omega)
   have h4 := ltS_tot h3 (hn _ (by omega))
   rcases Nat.lt_or_ge (lesL A a.1) k with h5 | h5
   ·exact ltS_tr h4 (h _ _ h5 h2)
   ·have : k = lesL A a.1 := by omega
    rw [this]; exact h4
  intro i j hij hj
  rw [put_new hf, aca_ins hle, aca_ins hle]
  by_cases e1 : j < lesL A a.1
  ·rw [if_pos (by omega), if_pos e1]
   exact h _ _ hij (by omega)
  rw [if_neg e1]
  by_cases e2 : j = lesL A a.1
  ·rw [if_pos e2, if_pos (by omega)]
   exact les_lt (by omega)
  rw [if_neg e2]
  by_cases e3 : i < lesL A a.1
  ·rw [if_pos e3]
   exact ltS_tr (les_lt e3) (hge _ (by omega) (by omega))
  rw [if_neg e3]
  by_cases e4 : i = lesL A a.1
  ·rw [if_pos e4]
   exact hge _ (by omega) (by omega)
  ·rw [if_neg e4]
   exact h _ _ (by omega) (by omega)
theorem put_nmd {A : List Ac} {a : Ac} (h : Nmd A) (ha : isName (nums a.1) = true) : Nmd (putL A a) := by
 have hl := put_len A a
 intro i hi
 by_cases hf : fndL A a.1 < A.length
 ·rw [if_pos hf] at hl
  rw [put_found hf, aca_set hf]
  by_cases e : i = fndL A a.1
  ·rw [if_pos e]; exact ha
  ·rw [if_neg e]; exact h i (by omega)
 ·rw [if_neg hf] at hl
  rw [put_new hf, aca_ins (les_le A a.1)]
  by_cases e : i < lesL A a.1
  ·rw [if_pos e]; exact h i (by have := les_le A a.1; omega)
  rw [if_neg e]
  by_cases e2 : i = lesL A a.1
  ·rw [if_pos e2]; exact ha
  ·rw [if_neg e2]; exact h _ (by omega)
/-- The accounts that are gathered, or the first error. -/
def genS (B : List Ac) : List Ac → List Ac × Int
 | [] => (B, 0)
 | a :: r => if isName (nums a.1) = false then ([], 10) else if fndL B a.1 < B.length then ([], 8) else genS (putL B a) r
def genX (A : List Ac) : List Ac × Int :=
 if 256 < A.length then ([], 3) else if (genS [] A).2 ≠ 0 then ([], (genS [] A).2) else if totB (genS [] A).1 0 = true then ((genS [] A).1, 0) else ([], 6)
def setX (A : List Ac) (c : Int) (a : Ac) : List Ac × Int × Int :=
 if valE A c ≠ 0 then ([], 0, valE A c) else if isName (nums a.1) = false then ([], 0, 10) else if 256 < (putL A a).length then ([], 0, 3) else if totB (putL A a) c = true then (putL A a, c, 0) else ([], 0, 6)
def getX (A : List Ac) (s : ByteArray) : Ac × Bool := if fndL A s < A.length then (aca A (fndL A s), true) else (zAc, false)
theorem gen_ok : ∀ (A B : List Ac), Srt B → Nmd B → (genS B A).2 = 0 → Srt (genS B A).1 ∧ Nmd (genS B A).1 ∧ (genS B A).1.length = B.length + A.length
 | [], B, h1, h2, h3 => ⟨h1, h2, rfl⟩
 | a :: r, B, h1, h2, h3 => by
  unfold genS at h3 ⊢
  by_cases e1 : isName (nums a.1) = false
  ·rw [if_pos e1] at h3; cases h3
  rw [if_neg e1] at h3 ⊢
  by_cases e2 : fndL B a.1 < B.length
  ·rw [if_pos e2] at h3; cases h3
  rw [if_neg e2] at h3 ⊢
  obtain ⟨q1, q2, q3⟩ := gen_ok r (putL B a) (put_srt h1) (put_nmd h2 (by simpa using e1)) h3
  refine ⟨q1, q2, ?_⟩
  rw [q3, put_len, if_neg e2, List.length_cons]
  omega
theorem srt_nil : Srt [] := fun i j h1 h2 => by simp at h2
theorem nmd_nil : Nmd [] := fun i h => by simp at h
theorem genX_ok {A : List Ac} (h : (genX A).2 = 0) : valE (genX A).1 0 = 0 ∧ (genX A).1.length = A.length := by
 unfold genX at h ⊢
 by_cases e1 : 256 < A.length
 ·rw [if_pos e1] at h; cases h
 rw [if_neg e1] at h ⊢
 by_cases e2 : (genS [] A).2 = 0
 ·rw [e2, if_neg (by simp)] at h ⊢
  by_cases e3 : totB (genS [] A).1 0 = true
  ·rw [if_pos e3]
   obtain ⟨q1, q2, q3⟩ := gen_ok A [] srt_nil nmd_nil e2
   have q4 : (genS [] A).1.length = A.length := by simpa using q3
   exact ⟨valE_of (by rw [q4]; omega) q1 q2 e3, q4⟩
  ·rw [if_neg e3] at h; cases h
 ·rw [if_pos e2] at h
  exact absurd h e2
theorem setX_ok {A : List Ac} {c : Int} {a : Ac} (h : (setX A c a).2.2 = 0) : setX A c a = (putL A a, c, 0) ∧ valE A c = 0 ∧ isName (nums a.1) = true ∧ valE (putL A a) c = 0 := by
 unfold setX at h ⊢
 by_cases e1 : valE A c = 0
 ·rw [e1, if_neg (by simp)] at h ⊢
  by_cases e2 : isName (nums a.1) = false
  ·rw [if_pos e2] at h; cases h
  rw [if_neg e2] at h ⊢
  by_cases e3 : 256 < (putL A a).length
  ·rw [if_pos e3] at h; cases h
  rw [if_neg e3] at h ⊢
  by_cases e4 : totB (putL A a) c = true
  ·rw [if_pos e4]
   obtain ⟨-, q2, q3, -⟩ := valE_ok e1
   exact ⟨rfl, rfl, by simpa using e2, valE_of (by omega) (put_srt q2) (put_nmd q3 (by simpa using e2)) e4⟩
  ·rw [if_neg e4] at h; cases h
 ·rw [if_pos e1] at h
  exact absurd h e1
/-- Full: no room for another name. -/
theorem put_full {A : List Ac} {a : Ac} (h : A.length ≤ 256) : (256 < (putL A a).length) ↔ (¬ fndL A a.1 < A.length ∧ A.length = 256) := by
 rw [put_len]
 by_cases hf : fndL A a.1 < A.length
 ·rw [if_pos hf]
  exact ⟨fun q => by omega, fun q => absurd hf q.1⟩
 ·rw [if_neg hf]
  exact ⟨fun q => ⟨hf, by omega⟩, fun q => by omega⟩
/-- Each balance is a word. -/
def AcW (A : List Ac) : Prop := ∀ i, i < A.length → W64 (aca A i).2.1 ∧ W64 (aca A i).2.2
theorem acw_mem {A : List Ac} (h : AcW A) : ∀ x, x ∈ A → W64 x.2.1 ∧ W64 x.2.2 := fun x hx => by
 obtain ⟨j, hj, rfl⟩ := List.mem_iff_getElem.1 hx
 rw [← aca_get hj]
 exact h j hj
theorem acw_of {A : List Ac} (h : ∀ x, x ∈ A → W64 x.2.1 ∧ W64 x.2.2) : AcW A := fun i hi => h _ (aca_mem hi)
theorem acw_nil : AcW [] := fun i h => by simp at h
theorem put_mem {A : List Ac} {a x : Ac} (h : x ∈ putL A a) : x = a ∨ x ∈ A := by
 unfold putL at h
 split at h
 ·rcases List.mem_or_eq_of_mem_set h with h1 | h1
  ·exact .inr h1
  ·exact .inl h1
 ·rcases List.mem_append.1 h with h1 | h1
  ·exact .inr (List.mem_of_mem_take h1)
  ·rcases List.mem_cons.1 h1 with h2 | h2
   ·exact .inl h2
   ·exact .inr (List.mem_of_mem_drop h2)
theorem put_w {A : List Ac} {a : Ac} (h : AcW A) (ha : W64 a.2.1 ∧ W64 a.2.2) : AcW (putL A a) := acw_of fun x hx => (put_mem hx).elim (fun e => e ▸ ha) (acw_mem h x)
theorem gen_w : ∀ (A B : List Ac), AcW B → (∀ x, x ∈ A → W64 x.2.1 ∧ W64 x.2.2) → AcW (genS B A).1
 | [], B, h1, h2 => h1
 | a :: r, B, h1, h2 => by
  unfold genS
  split
  ·exact acw_nil
  split
  ·exact acw_nil
  exact gen_w r (putL B a) (put_w h1 (h2 a (List.mem_cons_self ..))) (fun x hx => h2 x (List.mem_cons_of_mem _ hx))
theorem genX_w {A : List Ac} (h : AcW A) : AcW (genX A).1 := by
 unfold genX
 split
 ·exact acw_nil
 split
 ·exact acw_nil
 split
 ·exact gen_w A [] acw_nil (acw_mem h)
 ·exact acw_nil
end Go.Proofs.YtglglhcnofbagaaGreat.Lg
namespace Go.Proofs.YtglglhcnofbagaaGreat.Lg
attribute [local irreducible] wpList wpQuiet
set_option maxRecDepth 100000
open Go.RowKit
set_option linter.unusedSimpArgs false
set_option linter.unusedVariables false

theorem new_ac (V : World) (x : Ac) : ∃ V2, (Instr.storeAt 49 (.pointer (some ⟨V.heap.size, 0, none⟩)) (.agg (acA x))).run Tryz.prog (V.alloc (.cells (acA zAc) 49)) = .ok () V2 ∧ Below V.heap.size V V2 ∧ Bx V2 V.heap.size (acA x) 49 :=
 have hb : Bx (V.alloc (.cells (acA zAc) 49)) V.heap.size (acA zAc) 49 := heap_alloc_last V _
 ⟨_, (store_ac hb).1, belowRow ((Below.refl _ V).alloc (Nat.le_refl _) _) (Nat.le_refl _) _, (store_ac hb).2⟩
/-- A ledger in a block of its own. -/
abbrev lgA (a : Option Addr) (n k : Nat) (c : Int) : Array Value := #[.slice a n k, .int .u64 c]
theorem store_lg {w : World} {g : Nat} {a a' : Option Addr} {n n' k k' : Nat} {c c' : Int} (h : Bx w g (lgA a n k c) 25) : (Instr.storeAt 25 (.pointer (some ⟨g, 0, none⟩)) (.agg (lgA a' n' k' c'))).run Tryz.prog w = .ok () (w.setRow g (lgA a' n' k' c')) ∧ Bx (w.setRow g (lgA a' n' k' c')) g (lgA a' n' k' c') 25 :=
 ⟨run_store_all h rfl (by simp [Value.oneCell']) (by kernel_rfl), h.set⟩
theorem new_lg (V : World) (a : Option Addr) (n k : Nat) (c : Int) : ∃ V2, (Instr.storeAt 25 (.pointer (some ⟨V.heap.size, 0, none⟩)) (.agg (lgA a n k c))).run Tryz.prog (V.alloc (.cells (lgA none 0 0 0) 25)) = .ok () V2 ∧ Below V.heap.size V V2 ∧ Bx V2 V.heap.size (lgA a n k c) 25 :=
 have hb : Bx (V.alloc (.cells (lgA none 0 0 0) 25)) V.heap.size (lgA none 0 0 0) 25 := heap_alloc_last V _
 ⟨_, (store_lg hb).1, belowRow ((Below.refl _ V).alloc (Nat.le_refl _) _) (Nat.le_refl _) _, (store_lg hb).2⟩
theorem load_lg {w : World} {g : Nat} {a : Option Addr} {n k : Nat} {c : Int} (h : Bx w g (lgA a n k c) 25) : (Instr.loadAt 25 (.pointer (some ⟨g, 0, none⟩))).run Tryz.prog w = .ok (.agg (lgA a n k c)) w :=
 run_loadAt_mid w g 0 25 [.slice a n k, .int .u64 c] _ (fun j v hv => by
  rw [cell_of_row w g _ _ _ (0, 0) h]
  simpa using hv) Tryz.underlying25 rfl (by kernel_rfl)
theorem cb_lt : ∀ (x y : List UInt8), (Lib.compareBytes x y < 0 ↔ x < y) ∧ (Lib.compareBytes x y = 0 ↔ x = y)
 | [], [] => by simp [Lib.compareBytes]
 | [], _ :: _ => by simp [Lib.compareBytes]
 | _ :: _, [] => by simp [Lib.compareBytes]
 | a :: x, b :: y => by
  obtain ⟨h1, h2⟩ := cb_lt x y
  unfold Lib.compareBytes
  by_cases e1 : a < b
  ·rw [if_pos e1]
   have : a ≠ b := fun e => by subst e; exact absurd e1 (UInt8.lt_irrefl _)
   simp [List.cons_lt_cons_iff, e1, this]
  rw [if_neg e1]
  by_cases e2 : b < a
  ·rw [if_pos e2]
   have h3 : a ≠ b := fun e => by subst e; exact absurd e2 (UInt8.lt_irrefl _)
   simp [List.cons_lt_cons_iff, e1, h3]
  ·rw [if_neg e2]
   have h3 : a = b := UInt8.le_antisymm (UInt8.not_lt.1 e2) (UInt8.not_lt.1 e1)
   subst h3
   simp [List.cons_lt_cons_iff, e1, h1, h2]
/-- The comparison of two strings. -/
def cmpS (a b : ByteArray) : Int := Lib.compareBytes a.data.toList b.data.toList
theorem cmpS_lt (a b : ByteArray) : decide (cmpS a b < 0) = ltS a b := decide_eq_decide.2 (cb_lt _ _).1
theorem cmpS_eq (a b : ByteArray) : decide (cmpS a b = 0) = decide (a = b) := decide_eq_decide.2 ((cb_lt _ _).2.trans ⟨fun h => ByteArray.ext (Array.toList_inj.1 h), fun h => by rw [h]⟩)
set_option maxRecDepth 100000 in
set_option maxHeartbeats 8000000 in
theorem q_cmpb (a b : ByteArray) (w : World) : Calls Tryz.prog 114 #[.string a, .string b] w fun e w' => e = .returned (.int .i64 (cmpS a b)) ∧ w = w' := by
 go_enter Tryz.func114, Tryz.ntmps114
 go_wp2
 rw [run_callFunc_extern Tryz.func115 (by kernel_rfl) (by kernel_rfl) (by kernel_rfl) (e := Extern.BytealgCompare.compare) (by kernel_rfl), Lib.run_compareString]
 simp only [Result.andThen]
 rw [Oper.upon_value]
 go_wp2
 go_ret
 exact ⟨rfl, rfl⟩
set_option maxRecDepth 100000 in
set_option maxHeartbeats 8000000 in
theorem q_cmp (a b : ByteArray) (w : World) : Calls Tryz.prog 107 #[.string a, .string b] w fun e w' => e = .returned (.int .i64 (cmpS a b)) ∧ w = w' := by
 have CB := q_cmpb a b w
 generalize cmpS a b = q at *
 go_enter Tryz.func107, Tryz.ntmps107
 go_upto_region 1 with fail
 refine wl <| gz2 (.string a) (.string b) <| gzc (.int .i64 q) (fun w' => w = w') (CB) (fun V9 hV9 => ?_)
 subst hV9
 simp only [pu]
 refine gz1 (.int .i64 q) <| wn ?_
 simp only [pu]
 clear CB
 go_wp2_with fail
 go_ret
 exact ⟨rfl, rfl⟩
set_option maxRecDepth 100000 in
set_option maxHeartbeats 8000000 in
theorem q_place1 (x : Ac) (s : ByteArray) (w : World) : Calls Tryz.prog 106 #[.agg (acA x), .string s] w fun e w' => e = .returned (.int .i64 (cmpS x.1 s)) ∧ Below w.heap.size w w' := by
 have hb0 : Below w.heap.size w (w.alloc (.cells (acA x) 49)) := (Below.refl _ w).alloc (Nat.le_refl _) _
 have hX : Bx (w.alloc (.cells (acA x) 49)) w.heap.size (acA x) 49 := heap_alloc_last w _
 have CB := q_cmp x.1 s (w.alloc (.cells (acA x) 49))
 obtain ⟨q, hq⟩ : ∃ q, cmpS x.1 s = q := ⟨_, rfl⟩
 rw [hq] at CB ⊢
 clear hq
 go_enter Tryz.func106, Tryz.ntmps106
 go_upto_region 1 with fail
 change Code.wp _ _ _ _ (w.alloc (.cells (acA x) 49))
 generalize w.alloc (.cells (acA x) 49) = W at *
 have HB := Lib.hid hb0
 clear hb0
 refine wl <| gz1 (.pointer (some ⟨w.heap.size, 0, none⟩)) <| gzl rfl ⟨w.heap.size, 0, none⟩ (.string x.1) (hX.load (i := 0) rfl (by kernel_rfl)) <| gz1 (.string s) <| gzc (.int .i64 q) (fun w' => W = w') (CB) (fun V9 hV9 => ?_)
 subst hV9
 simp only [pu]
 refine gz1 (.int .i64 q) <| wn ?_
 simp only [pu]
 clear CB hX
 go_wp2_with fail
 go_ret
 exact ⟨rfl, HB.out⟩
theorem conv_iu {ρ : Operand → Value} {o : Oper} {x : Operand} (ho : o.op = .convert 3 126 x) (a : Nat) (h : a ≤ 9223372036854775807) (hx : ρ x = .int .i64 a) (w : World) : (execOp ρ o).run Tryz.prog w = .ok (.value (.int .u64 a)) w := by
 have e : IntKind.u64.wrap (a : Int) = a := by rw [IntKind.wrap_u64]; omega
 unfold execOp
 simp only [ho, hx]
 go_simp
theorem conv_ui {ρ : Operand → Value} {o : Oper} {x : Operand} (ho : o.op = .convert 126 3 x) (a : Nat) (h : a ≤ 9223372036854775807) (hx : ρ x = .int .u64 a) (w : World) : (execOp ρ o).run Tryz.prog w = .ok (.value (.int .i64 a)) w := by
 have e : IntKind.i64.wrap (a : Int) = a := by rw [IntKind.wrap_i64]; omega
 unfold execOp
 simp only [ho, hx]
 go_simp
theorem half_u {ρ : Operand → Value} {o : Oper} {x y : Operand} (ho : o.op = .binOp .shr 126 x y 126) (a : Nat) (h : a ≤ 9223372036854775807) (hx : ρ x = .int .u64 a) (hy : ρ y = .int .u64 1) (w : World) : (execOp ρ o).run Tryz.prog w = .ok (.value (.int .u64 (a / 2 : Nat))) w := by
 unfold execOp
 simp only [ho, hx, hy]
 go_simp
set_option maxRecDepth 100000 in
set_option maxHeartbeats 8000000 in
theorem q_bs (a : Option Addr) (k : Nat) (A : List Ac) (s : ByteArray) (w : World) (hR : Cs w a (acc A)) (hs : Srt A) (hn : A.length ≤ 1000000) :
  Calls Tryz.prog 105 #[.slice a A.length k, .string s, .func (.func 106) #[] #[]] w fun e w' => e = .returned (.tuple #[.int .i64 (lesL A s), .bool (decide (fndL A s < A.length))]) ∧ Below w.heap.size w w' := by
 have HA := Lib.hid hR
 have HLT := Lib.hid (fun i => cmpS_lt (aca A i).1 s)
 have HEQ := Lib.hid (fun i => cmpS_eq (aca A i).1 s)
 have HS := Lib.hid hs
 obtain ⟨n, hnn⟩ : ∃ n, A.length = n := ⟨_, rfl⟩
 have HN := Lib.hid hnn
 have HNL : Hid (n ≤ 1000000) := Lib.hid (by omega)
 obtain ⟨lL, hlL⟩ : ∃ l, lesL A s = l := ⟨_, rfl⟩
 obtain ⟨fF, hfF⟩ : ∃ f, decide (fndL A s < n) = f := ⟨_, rfl⟩
 have HRS : Hid (∀ i, i ≤ n → (∀ t, t < i → ltS (aca A t).1 s = true) → (∀ t, i ≤ t → t < n → ltS (aca A t).1 s = false) → i = lL ∧ fF = decide (i < n ∧ (aca A i).1 = s)) := Lib.hid fun i h1 h2 h3 => by
  have e := les_is (A := A) (s := s) (i := i) (by omega) h2 (fun h => h3 i (Nat.le_refl _) (by omega))
  refine ⟨by rw [← hlL, e], ?_⟩
  rw [← hfF, ← hnn, srt_les hs, e]
 rw [hnn, hlL, hfF]
 clear hlL hfF hR hs hn hnn
 go_enter Tryz.func105, Tryz.ntmps105
 go_upto_region 1 with fail
 refine wl <| gz3 (.slice a n k) (.int .i64 n) (.int .i64 n) <| wn ?_
 simp only [pu]
 go_upto_region 2 with fail
 refine wl <| gz3 (.int .i64 n) (.int .i64 0) (.int .i64 n) <| wn ?_
 simp only [pu]
 go_wp2_with fail
 go_loopg [9, 10] n (fun gg s9 s10 wx => ∃ i j : Nat, s9 = .int .i64 i ∧ s10 = .int .i64 j ∧ i ≤ j ∧ j ≤ n ∧ Hid ((∀ t, t < i → ltS (aca A t).1 s = true) ∧ (∀ t, j ≤ t → t < n → ltS (aca A t).1 s = false)) ∧ Hid (Below w.heap.size w wx) ∧ j - i = gg)
 case atStart => exact ⟨0, n, rfl, rfl, by omega, by omega, Lib.hid ⟨fun t h => by omega, fun t h h2 => by omega⟩, Lib.hid (Below.refl _ _), by omega⟩
 case round =>
  obtain ⟨i, j, rfl, rfl, hij, hjn, HO, HB, hg⟩ := hrel
  have hn9 := HNL.out
  by_cases hlt : i < j
  ·skip
   go_upto_region 3 with fail
   refine wl <| gz2 (.int .i64 i) (.int .i64 j) <| gzb (lss_n rfl (i) (j) dT) <| wn ?_
   simp only [pu]
   go_upto_region 4 with fail
   refine wl <| gz2 (.int .i64 i) (.int .i64 j) <| gzw (.int .i64 (i + j : Nat)) (add_nat rfl i j (by omega)) <| gzv (.int .u64 (i + j : Nat)) (conv_iu rfl (i + j) (by omega) (by kernel_rfl) _) <|
    gzw (.int .u64 ((i + j) / 2 : Nat)) (half_u rfl (i + j) (by omega)) <| gzv (.int .i64 ((i + j) / 2 : Nat)) (conv_ui rfl ((i + j) / 2) (by omega) (by kernel_rfl) _) <| gz1 (.int .i64 ((i + j) / 2 : Nat)) <| wn ?_
   simp only [pu]
   obtain ⟨h, hh⟩ : ∃ h, (i + j) / 2 = h := ⟨_, rfl⟩
   have HH : Hid (i ≤ h ∧ h < j) := Lib.hid (by omega)
   have hhn : h < n := by have := HH.out; omega
   rw [hh]
   clear hh
   obtain ⟨b, off, rfl, -, hrx⟩ := ac_range (HA.out.below HB.out) (k := h) (by rw [HN.out]; exact hhn)
   have HLD := Lib.hid (load_ac hrx)
   have hl1 := HLT.out h
   generalize hy : aca A h = y at *
   have CP := q_place1 y s wr
   obtain ⟨q, hq⟩ : ∃ q, cmpS y.1 s = q := ⟨_, rfl⟩
   rw [hq] at CP hl1
   have HY := Lib.hid hy
   have HG := Lib.hid hg
   clear hrx hq hy hg
   go_upto_region 5 with fail
   by_cases hqq : q < 0
   ·skip
    rw [decide_eq_true hqq] at hl1
    refine wl <| gz3 (.func (.func 106) #[] #[]) (.slice (some ⟨b, off, none⟩) n k) (.int .i64 h) <| gzv (.pointer (some ⟨b, off + h * 3, none⟩)) (idx_ac b off n k h hhn _ _ _ rfl (by kernel_rfl) (by kernel_rfl)) <| gzl rfl ⟨b, off + h * 3, none⟩ (.agg (acA y)) (HLD.out) <|
     gz1 (.string s) <| gzc (.int .i64 q) (fun w' => Below wr.heap.size wr w') (CP) (fun V9 hV9 => ?_)
    have HB9 := Lib.hid (HB.out.trans (hV9.mono HB.out.size))
    simp only [pu]
    refine gzb (lss_n rfl (q) (0) (decide_eq_true (hqq))) <| wn ?_
    simp only [pu]
    clear hV9 HB HLD CP hqq
    have HO9 : Hid ((∀ t, t < h + 1 → ltS (aca A t).1 s = true) ∧ (∀ t, j ≤ t → t < n → ltS (aca A t).1 s = false)) := Lib.hid ⟨fun t ht => (by rcases Nat.lt_or_ge t h with h7 | h7; exact ltS_tr (HS.out t h h7 (by rw [HN.out]; exact hhn)) (by rw [HY.out]; exact hl1.symm); have e7 : t = h := (by omega); rw [e7, HY.out]; exact hl1.symm), HO.out.2⟩
    go_upto_region 6 with fail
    refine wl <| gz1 (.int .i64 h) <| gzw (.int .i64 (h + 1 : Nat)) (add_nat rfl h 1 (by omega)) <| gz1 (.int .i64 (h + 1 : Nat)) <| wn ?_
    simp only [pu]
    clear HO hl1
    go_wp2_with fail
    go_roundg (j - (h + 1))
    case measure => have := HG.out; have := HH.out; omega
    case rel => exact ⟨h + 1, j, rfl, rfl, by have := HH.out; omega, hjn, HO9, HB9, rfl⟩
   ·skip
    rw [decide_eq_false hqq] at hl1
    refine wl <| gz3 (.func (.func 106) #[] #[]) (.slice (some ⟨b, off, none⟩) n k) (.int .i64 h) <| gzv (.pointer (some ⟨b, off + h * 3, none⟩)) (idx_ac b off n k h hhn _ _ _ rfl (by kernel_rfl) (by kernel_rfl)) <| gzl rfl ⟨b, off + h * 3, none⟩ (.agg (acA y)) (HLD.out) <|
     gz1 (.string s) <| gzc (.int .i64 q) (fun w' => Below wr.heap.size wr w') (CP) (fun V9 hV9 => ?_)
    have HB9 := Lib.hid (HB.out.trans (hV9.mono HB.out.size))
    simp only [pu]
    refine gzb (lss_n rfl (q) (0) (decide_eq_false (hqq))) <| wn ?_
    simp only [pu]
    clear hV9 HB HLD CP hqq
    have HO9 : Hid ((∀ t, t < i → ltS (aca A t).1 s = true) ∧ (∀ t, h ≤ t → t < n → ltS (aca A t).1 s = false)) := Lib.hid ⟨HO.out.1, fun t ht htn => (by have h0 : ltS (aca A h).1 s = false := (by rw [HY.out]; exact hl1.symm); rcases Nat.lt_or_ge h t with h7 | h7; have h8 := HS.out h t h7 (by rw [HN.out]; exact htn); by_cases h9 : ltS (aca A t).1 s = true; rw [ltS_tr h8 h9] at h0; cases h0; simpa using h9; have e7 : t = h := (by omega); rw [e7]; exact h0)⟩
    go_upto_region 7 with fail
    refine wl <| gz2 (.int .i64 h) (.int .i64 h) <| wn ?_
    simp only [pu]
    clear HO hl1
    go_wp2_with fail
    go_roundg (h - i)
    case measure => have := HG.out; have := HH.out; omega
    case rel => exact ⟨i, h, rfl, rfl, by have := HH.out; omega, by have := HH.out; omega, HO9, HB9, rfl⟩
  ·skip
   obtain rfl : i = j := by omega
   obtain ⟨hil, hff⟩ := HRS.out i hjn HO.out.1 HO.out.2
   subst hil
   clear HO HRS hg hij
   by_cases hin : i < n
   ·skip
    obtain ⟨b, off, rfl, -, hrx⟩ := ac_range (HA.out.below HB.out) (k := i) (by rw [HN.out]; exact hin)
    have HLD := Lib.hid (load_ac hrx)
    have hl1 := HEQ.out i
    have hff2 : fF = decide ((aca A i).1 = s) := by rw [hff, decide_eq_decide]; exact ⟨fun h => h.2, fun h => ⟨hin, h⟩⟩
    clear hff
    generalize aca A i = y at *
    rw [← hl1] at hff2
    have CP := q_place1 y s wr
    obtain ⟨q, hq⟩ : ∃ q, cmpS y.1 s = q := ⟨_, rfl⟩
    rw [hq] at CP hff2
    have HFF := Lib.hid hff2.symm
    clear hrx hq hl1 hff2
    go_upto_region 3 with fail
    refine wl <| gz2 (.int .i64 i) (.int .i64 i) <| gzb (lss_n rfl (i) (i) dF) <| wn ?_
    simp only [pu]
    go_upto_region 8 with fail
    refine wl <| gz3 (.int .i64 i) (.int .i64 i) (.int .i64 n) <| gzb (lss_n rfl (i) (n) dT) <| gz4 (.bool true) (.func (.func 106) #[] #[]) (.slice (some ⟨b, off, none⟩) n k) (.int .i64 i) <|
     gzv (.pointer (some ⟨b, off + i * 3, none⟩)) (idx_ac b off n k i hin _ _ _ rfl (by kernel_rfl) (by kernel_rfl)) <| gzl rfl ⟨b, off + i * 3, none⟩ (.agg (acA y)) (HLD.out) <| gz1 (.string s) <| gzc (.int .i64 q) (fun w' => Below wr.heap.size wr w') (CP) (fun V9 hV9 => ?_)
    have HB9 := Lib.hid (HB.out.trans (hV9.mono HB.out.size))
    simp only [pu]
    refine gzw (.bool fF) (eql_n rfl q 0 HFF.out) <| gz3 (.bool fF) (.int .i64 i) (.bool fF) <| wn ?_
    simp only [pu]
    clear hV9 HB HLD CP HFF
    go_wp2_with fail
    go_ret2
    exact ⟨rfl, HB9.out⟩
   ·skip
    rw [decide_eq_false (fun h => hin h.1)] at hff
    subst hff
    go_upto_region 3 with fail
    refine wl <| gz2 (.int .i64 i) (.int .i64 i) <| gzb (lss_n rfl (i) (i) dF) <| wn ?_
    simp only [pu]
    go_upto_region 8 with fail
    refine wl <| gz3 (.int .i64 i) (.int .i64 i) (.int .i64 n) <| gzb (lss_n rfl (i) (n) dF) <| gz6 (.bool false) undef undef undef undef undef <| gz6 undef undef undef (.bool false) (.int .i64 i) (.bool false) <|
     wpList_nil ?_
    simp only [pu]
    go_wp2_with fail
    go_ret2
    exact ⟨rfl, HB.out⟩
set_option maxRecDepth 100000 in
set_option maxHeartbeats 8000000 in
theorem q_place (a : Option Addr) (k : Nat) (A : List Ac) (s : ByteArray) (w : World) (hR : Cs w a (acc A)) (hs : Srt A) (hn : A.length ≤ 1000000) :
  Calls Tryz.prog 96 #[.slice a A.length k, .string s] w fun e w' => e = .returned (.tuple #[.int .i64 (lesL A s), .bool (decide (fndL A s < A.length))]) ∧ Below w.heap.size w w' := by
 have CB := q_bs a k A s w hR hs hn
 obtain ⟨lL, hlL⟩ : ∃ l, lesL A s = l := ⟨_, rfl⟩
 obtain ⟨fF, hfF⟩ : ∃ f, decide (fndL A s < A.length) = f := ⟨_, rfl⟩
 rw [hlL, hfF] at CB ⊢
 generalize A.length = n at *
 clear hlL hfF hR hs hn
 go_enter Tryz.func96, Tryz.ntmps96
 go_upto_region 1 with fail
 refine wl <| gz2 (.slice a n k) (.string s) <| gzc (.tuple #[.int .i64 lL, .bool fF]) (fun w' => Below w.heap.size w w') (CB) (fun V9 hV9 => ?_)
 have HB9 := Lib.hid hV9
 simp only [pu]
 refine gz4 (.int .i64 lL) (.bool fF) (.int .i64 lL) (.bool fF) <| wn ?_
 simp only [pu]
 clear hV9 CB
 go_wp2_with fail
 go_ret2
 exact ⟨rfl, HB9.out⟩
def fndI (A : List Ac) (s : ByteArray) : Int := if fndL A s < A.length then fndL A s else -1
set_option maxRecDepth 100000 in
set_option maxHeartbeats 8000000 in
theorem ref_find (a : Option Addr) (k : Nat) (A : List Ac) (s : ByteArray) (w : World) (hR : Cs w a (acc A)) (hn : A.length ≤ 4398046511104) :
  Calls Tryz.prog 38 #[.slice a A.length k, .string s] w fun e w' => e = .returned (.int .i64 (fndI A s)) ∧ Below w.heap.size w w' := by
 have HA := Lib.hid hR
 obtain ⟨n, hnn⟩ : ∃ n, A.length = n := ⟨_, rfl⟩
 have HN := Lib.hid hnn
 have HNL : Hid (n ≤ 4398046511104) := Lib.hid (by omega)
 have HF1 : Hid (∀ i, i < n → (∀ t, t < i → (aca A t).1 ≠ s) → (aca A i).1 = s → fndI A s = i) := Lib.hid fun i h1 h2 h3 => by
  have e := fnd_is (A := A) (by omega) h2 h3
  unfold fndI
  rw [e, if_pos (by omega)]
 have HF2 : Hid ((∀ t, t < n → (aca A t).1 ≠ s) → fndI A s = -1) := Lib.hid fun h => by
  have e := fnd_no (A := A) (s := s) (fun j hj => h j (by omega))
  unfold fndI
  rw [e, if_neg (by omega)]
 rw [hnn]
 generalize fndI A s = r at *
 clear hR hn hnn
 go_enter Tryz.func38, Tryz.ntmps38
 go_upto_region 1 with fail
 refine wl <| gz3 (.slice a n k) (.int .i64 n) (.int .i64 0) <| wn ?_
 simp only [pu]
 go_wp2_with fail
 go_loopg [9] n (fun gg s9 wx => ∃ j : Nat, s9 = .int .i64 j ∧ j ≤ n ∧ Hid (∀ t, t < j → (aca A t).1 ≠ s) ∧ Hid (Below w.heap.size w wx) ∧ n - j = gg)
 case atStart => exact ⟨0, rfl, by omega, Lib.hid (fun t h => by omega), Lib.hid (Below.refl _ _), by omega⟩
 case round =>
  obtain ⟨j, rfl, hj, HO, HB, hg⟩ := hrel
  have hn9 := HNL.out
  by_cases hlt : j < n
  ·skip
   obtain ⟨b, off, rfl, -, hrx⟩ := ac_range (HA.out.below HB.out) (k := j) (by rw [HN.out]; exact hlt)
   have HLD := Lib.hid (load_ac hrx)
   have hf1 := HF1.out j hlt HO.out
   generalize hy : aca A j = y at *
   have HY := Lib.hid hy
   have HG := Lib.hid hg
   obtain ⟨V2, hst, hb2, hbx⟩ := new_ac wr y
   have HB2 := Lib.hid (HB.out.trans (hb2.mono HB.out.size))
   clear hrx hy hg hb2
   go_upto_region 2 with fail
   refine wl <| gzb (lss_n rfl (j) (n) dT) <| wn ?_
   simp only [pu]
   go_upto_region 3 with fail
   refine wl <| gz1 (.int .i64 j) <| gzv (.pointer (some ⟨b, off + j * 3, none⟩)) (idx_ac b off n k j hlt _ _ _ rfl (by kernel_rfl) (by kernel_rfl)) <| gzl rfl ⟨b, off + j * 3, none⟩ (.agg (acA y)) (HLD.out) ?_
   simp only [pu]
   refine run_to rfl (some 6) rfl (.pointer (some ⟨wr.heap.size, 0, none⟩)) (wr.alloc (.cells (acA zAc) 49)) (by kernel_rfl) ?_
   simp only [pu]
   refine gz1 (.int .i64 j) <| gzs rfl (hst) <| wn ?_
   simp only [pu]
   obtain ⟨g4, hg4⟩ : ∃ g4, wr.heap.size = g4 := ⟨_, rfl⟩
   rw [hg4] at hbx ⊢
   clear hst hg4 HLD
   by_cases hey : y.1 = s
   ·skip
    go_upto_region 4 with fail
    refine wl <| gz1 (.pointer (some ⟨g4, 0, none⟩)) <| gzl rfl ⟨g4, 0, none⟩ (.string y.1) (hbx.load (i := 0) rfl (by kernel_rfl)) <| gz1 (.string s) <| gzw (.bool true) (eql_s rfl y.1 s (by rw [beqB]; exact decide_eq_true hey)) <| wn ?_
    simp only [pu]
    clear hbx
    have HR := Lib.hid (hf1 hey)
    clear hf1 HO HB
    go_upto_region 5 with fail
    refine wl <| gz2 (.int .i64 j) (.int .i64 j) <| wn ?_
    simp only [pu]
    go_wp2_with fail
    go_ret
    exact ⟨by rw [HR.out]; rfl, HB2.out⟩
   ·skip
    go_upto_region 4 with fail
    refine wl <| gz1 (.pointer (some ⟨g4, 0, none⟩)) <| gzl rfl ⟨g4, 0, none⟩ (.string y.1) (hbx.load (i := 0) rfl (by kernel_rfl)) <| gz1 (.string s) <| gzw (.bool false) (eql_s rfl y.1 s (by rw [beqB]; exact decide_eq_false hey)) <| wn ?_
    simp only [pu]
    clear hbx
    have HO9 : Hid (∀ t, t < j + 1 → (aca A t).1 ≠ s) := Lib.hid fun t ht => (by rcases Nat.lt_or_ge t j with h7 | h7; exact HO.out t h7; have e7 : t = j := (by omega); rw [e7, HY.out]; exact hey)
    clear hf1 HO HB hey
    go_upto_region 6 with fail
    refine wl <| gzw (.int .i64 (j + 1 : Nat)) (add_nat rfl j 1 (by omega)) <| gz1 (.int .i64 (j + 1 : Nat)) <| wn ?_
    simp only [pu]
    go_wp2_with fail
    go_roundg (n - (j + 1))
    case measure => have := HG.out; omega
    case rel => exact ⟨j + 1, rfl, hlt, HO9, HB2, rfl⟩
  ·skip
   obtain rfl : n = j := by omega
   obtain rfl := HF2.out HO.out
   clear HO HF1 HF2 hg
   go_upto_region 2 with fail
   refine wl <| gzb (lss_n rfl (n) (n) dF) <| wn ?_
   simp only [pu]
   go_upto_region 7 with fail
   refine wl <| gz1 (.int .i64 (-1)) <| wn ?_
   simp only [pu]
   go_wp2_with fail
   go_ret
   exact ⟨rfl, HB.out⟩
end Go.Proofs.YtglglhcnofbagaaGreat.Lg
