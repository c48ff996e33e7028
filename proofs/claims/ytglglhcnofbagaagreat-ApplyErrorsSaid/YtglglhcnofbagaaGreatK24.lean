/-
  The contracts of gas.Used, gas.Need and gas.Priority and of their references, and of the statements' Place.
 Conditions: numbers of 64 bits. The effect of a transaction as plain data; what it keeps: the total, the order, the names, the sequences of others. The cost of a transaction: contracts. The reference's done: contract.
-/
import Derived.Test.YtglglhcnofbagaaGreatK4
import Derived.Test.YtglglhcnofbagaaGreatK23
import Derived.Laws.Tables
import Derived.Lib.SmallJoins
import Derived.Test.YtglglhcnofbagaaGreatK22
namespace Go.Proofs.YtglglhcnofbagaaGreat.Mo
set_option maxRecDepth 100000
open Go.RowKit
set_option linter.unusedSimpArgs false
set_option linter.unusedVariables false


theorem max_int {ρ : Operand → Value} {o : Oper} {x y : Operand} (ho : o.op = .call { callee := .builtin .max, args := #[x, y], argTypes := #[3, 3] }) (a b : Int) (hx : ρ x = .int .i64 a) (hy : ρ y = .int .i64 b) (w : World) : (execOp ρ o).run Tryz.prog w = .ok (.value (.int .i64 (max a b))) w := by
 unfold execOp
 simp only [ho, hx, hy, resolve, invoke, builtin, Sem.run_bind, Sem.run_pure, Result.andThen_ok, List.map_toArray, List.map_cons, List.map_nil]
 simp [go_sem]
 by_cases hab : a < b
 ·rw [if_pos hab, Int.max_eq_right (by omega)]
 ·rw [if_neg hab, Int.max_eq_left (by omega)]
theorem min_int {ρ : Operand → Value} {o : Oper} {x y : Operand} (ho : o.op = .call { callee := .builtin .min, args := #[x, y], argTypes := #[3, 3] }) (a b : Int) (hx : ρ x = .int .i64 a) (hy : ρ y = .int .i64 b) (w : World) : (execOp ρ o).run Tryz.prog w = .ok (.value (.int .i64 (min a b))) w := by
 unfold execOp
 simp only [ho, hx, hy, resolve, invoke, builtin, Sem.run_bind, Sem.run_pure, Result.andThen_ok, List.map_toArray, List.map_cons, List.map_nil]
 simp [go_sem]
 by_cases hab : b < a
 ·rw [if_pos hab, Int.min_eq_right (by omega)]
 ·rw [if_neg hab, Int.min_eq_left (by omega)]
theorem conv_iu {ρ : Operand → Value} {o : Oper} {x : Operand} (ho : o.op = .convert 3 23 x) (a : Int) (h0 : 0 ≤ a) (h1 : a ≤ 9223372036854775807) (hx : ρ x = .int .i64 a) (w : World) : (execOp ρ o).run Tryz.prog w = .ok (.value (.int .u64 a)) w := by
 have hw : IntKind.u64.wrap a = a := by rw [IntKind.wrap_u64]; omega
 unfold execOp
 simp only [ho, hx]
 go_simp
/-- A number as gas counts it. -/
def lim (n : Int) : Int := max 0 (min n 1073741824)
def usedV (s t : Int) : Int := 50 + lim s + 20 * lim t
def prioV (f g : Int) : Int := if g = 0 then 0 else if mdB 1000 f g = true then mdV 1000 f g else 18446744073709551615
theorem lim_range (n : Int) : 0 ≤ lim n ∧ lim n ≤ 1073741824 := by unfold lim; omega
theorem used_range (s t : Int) : 50 ≤ usedV s t ∧ usedV s t ≤ 22548578354 := by
 have := lim_range s; have := lim_range t
 unfold usedV; omega
theorem md_comm (a b c : Int) : mdV b a c = mdV a b c ∧ mdB b a c = mdB a b c := by
 unfold mdV mdB
 rw [Int.mul_comm b a]
 exact ⟨rfl, rfl⟩
theorem gas_count (n : Int) (w : World) : Calls Tryz.prog 93 #[.int .i64 n] w fun e w' => e = .returned (.int .u64 (lim n)) ∧ w = w' := by
 have hr := lim_range n
 have e1 : min (max n 0) 1073741824 = lim n := by unfold lim; omega
 generalize lim n = L at *
 go_enter Tryz.func93, Tryz.ntmps93
 go_upto_region 1 with fail
 refine wl <| gzv (.int .i64 n) rfl <| gzw (.int .i64 (max n 0)) (max_int rfl n 0) <| gzv (.int .i64 L) ((min_int rfl (max n 0) 1073741824 (by kernel_rfl) (by kernel_rfl) _).trans (by rw [e1])) <|
  gzv (.int .u64 L) (conv_iu rfl L (by omega) (by omega) (by kernel_rfl) _) <| gz1 (.int .u64 L) <| wn ?_
 simp only [pu]
 go_wp2_with fail
 go_ret
 exact ⟨rfl, rfl⟩
theorem ref_limited (n : Int) (w : World) : Calls Tryz.prog 40 #[.int .i64 n] w fun e w' => e = .returned (.int .u64 (lim n)) ∧ w = w' := by
 have hr := lim_range n
 have e1 : max 0 (min n 1073741824) = lim n := by unfold lim; omega
 generalize lim n = L at *
 go_enter Tryz.func40, Tryz.ntmps40
 go_upto_region 1 with fail
 refine wl <| gzv (.int .i64 n) rfl <| gzw (.int .i64 (min n 1073741824)) (min_int rfl n 1073741824) <| gzv (.int .i64 L) ((max_int rfl 0 (min n 1073741824) (by kernel_rfl) (by kernel_rfl) _).trans (by rw [e1])) <|
  gzv (.int .u64 L) (conv_iu rfl L (by omega) (by omega) (by kernel_rfl) _) <| gz1 (.int .u64 L) <| wn ?_
 simp only [pu]
 go_wp2_with fail
 go_ret
 exact ⟨rfl, rfl⟩
theorem gas_used (s t : Int) (w : World) : Calls Tryz.prog 74 #[.int .i64 s, .int .i64 t] w fun e w' => e = .returned (.int .u64 (usedV s t)) ∧ w = w' := by
 have h1 := lim_range s
 have h2 := lim_range t
 have c1 := fun w => gas_count s w
 have c2 := fun w => gas_count t w
 unfold usedV
 generalize lim s = a at *
 generalize lim t = b at *
 go_enter Tryz.func74, Tryz.ntmps74
 go_wp2_with fail
 refine (c1 _).mono ?_
 rintro e w' ⟨rfl, rfl⟩
 go_wp2_with fail
 refine (c2 _).mono ?_
 rintro e w' ⟨rfl, rfl⟩
 go_wp2
 go_ret
 exact ⟨rfl, rfl⟩
theorem ref_used (s t : Int) (w : World) : Calls Tryz.prog 17 #[.int .i64 s, .int .i64 t] w fun e w' => e = .returned (.int .u64 (usedV s t)) ∧ w = w' := by
 have h1 := lim_range s
 have h2 := lim_range t
 have c1 := fun w => ref_limited s w
 have c2 := fun w => ref_limited t w
 unfold usedV
 generalize lim s = a at *
 generalize lim t = b at *
 go_enter Tryz.func17, Tryz.ntmps17
 go_wp2_with fail
 refine (c1 _).mono ?_
 rintro e w' ⟨rfl, rfl⟩
 go_wp2_with fail
 refine (c2 _).mono ?_
 rintro e w' ⟨rfl, rfl⟩
 go_wp2
 go_ret
 exact ⟨rfl, rfl⟩
theorem gas_need (a b : Int) (w : World) (ha : W64 a) (hb : W64 b) :
  Calls Tryz.prog 75 #[.int .u64 a, .int .u64 b] w fun e w' => e = .returned (.tuple #[.int .u64 (mulV a b), .bool (mulB a b)]) ∧ w = w' := by
 have c := fun w => money_mul a b w ha hb
 generalize mulV a b = v at *
 generalize mulB a b = t at *
 go_enter Tryz.func75, Tryz.ntmps75
 go_wp2_with fail
 refine (c _).mono ?_
 rintro e w' ⟨rfl, rfl⟩
 go_wp2
 go_ret2
 exact ⟨rfl, rfl⟩
theorem ref_need (a b : Int) (w : World) (ha : W64 a) (hb : W64 b) :
  Calls Tryz.prog 19 #[.int .u64 a, .int .u64 b] w fun e w' => e = .returned (.tuple #[.int .u64 (mulV a b), .bool (mulB a b)]) ∧ w = w' := by
 have c := fun w => ref_mul a b w ha hb
 generalize mulV a b = v at *
 generalize mulB a b = t at *
 go_enter Tryz.func19, Tryz.ntmps19
 go_wp2_with fail
 refine (c _).mono ?_
 rintro e w' ⟨rfl, rfl⟩
 go_wp2
 go_ret2
 exact ⟨rfl, rfl⟩
theorem gas_prio (f g : Int) (w : World) (hf : W64 f) (hg : W64 g) :
  Calls Tryz.prog 29 #[.int .u64 f, .int .u64 g] w fun e w' => e = .returned (.int .u64 (prioV f g)) ∧ ∃ n, w' = w.drewN n := by
 by_cases h : g = 0
 ·subst h
  go_enter Tryz.func29, Tryz.ntmps29
  go_wp2
  go_ret
  exact ⟨rfl, 0, rfl⟩
 ·have h0 : (g == 0) = false := by simpa using h
  have c := fun w => money_muldiv 1000 f g w ⟨by omega, by omega⟩ hf hg
  have e : prioV f g = if mdB 1000 f g = true then mdV 1000 f g else 18446744073709551615 := by unfold prioV; rw [if_neg h]
  rw [e]
  clear e
  generalize mdV 1000 f g = v at *
  cases hb : mdB 1000 f g
  ·rw [hb] at c
   clear hb
   go_enter Tryz.func29, Tryz.ntmps29
   go_wp2_with fail
   refine (c _).mono ?_
   rintro e w' ⟨rfl, n, rfl⟩
   go_wp2
   go_ret
   exact ⟨rfl, n, rfl⟩
  ·rw [hb] at c
   clear hb
   go_enter Tryz.func29, Tryz.ntmps29
   go_wp2_with fail
   refine (c _).mono ?_
   rintro e w' ⟨rfl, n, rfl⟩
   go_wp2
   go_ret
   exact ⟨rfl, n, rfl⟩
theorem ref_prio (f g : Int) (w : World) (hf : W64 f) (hg : W64 g) :
  Calls Tryz.prog 33 #[.int .u64 f, .int .u64 g] w fun e w' => e = .returned (.int .u64 (prioV f g)) ∧ w = w' := by
 by_cases h : g = 0
 ·subst h
  go_enter Tryz.func33, Tryz.ntmps33
  go_wp2
  go_ret
  exact ⟨rfl, rfl⟩
 ·have h0 : (g == 0) = false := by simpa using h
  have c := fun w => ref_muldiv f 1000 g w hf ⟨by omega, by omega⟩ hg
  have e : prioV f g = if mdB 1000 f g = true then mdV 1000 f g else 18446744073709551615 := by unfold prioV; rw [if_neg h]
  rw [e]
  rw [(md_comm 1000 f g).1, (md_comm 1000 f g).2] at c
  clear e
  generalize mdV 1000 f g = v at *
  cases hb : mdB 1000 f g
  ·rw [hb] at c
   clear hb
   go_enter Tryz.func33, Tryz.ntmps33
   go_wp2_with fail
   refine (c _).mono ?_
   rintro e w' ⟨rfl, rfl⟩
   go_wp2
   go_ret
   exact ⟨rfl, rfl⟩
  ·rw [hb] at c
   clear hb
   go_enter Tryz.func33, Tryz.ntmps33
   go_wp2_with fail
   refine (c _).mono ?_
   rintro e w' ⟨rfl, rfl⟩
   go_wp2
   go_ret
   exact ⟨rfl, rfl⟩
end Go.Proofs.YtglglhcnofbagaaGreat.Mo
namespace Go.Proofs.YtglglhcnofbagaaGreat.Lg
set_option maxRecDepth 100000
open Go.RowKit
open Mo (usedV prioV mulB mulV)
set_option linter.unusedVariables false

/-- A result. -/
structure Res where
 code : Int
 snd : ByteArray
 sq : Int
 gas : Int
 pr : Int
abbrev resA (r : Res) : Array Value := #[.int .i64 r.code, .string r.snd, .int .u64 r.sq, .int .u64 r.gas, .int .u64 r.pr]
def zRes (e : Int) : Res := ⟨e, mtS, 0, 0, 0⟩
def amts (t : Txd) : List Int := t.fee :: t.tr.map (·.2)
def cosB (t : Txd) : Bool := sumB (amts t)
def cosV (t : Txd) : Int := sumV (amts t)
/-- The account of a name, or a new one. -/
def getA (A : List Ac) (s : ByteArray) : Ac := if fndL A s < A.length then aca A (fndL A s) else (s, 0, 0)
def givA (A : List Ac) (x : Tf) : List Ac := putL A ((getA A x.1).1, (getA A x.1).2.1 + x.2, (getA A x.1).2.2)
def subA (A : List Ac) (t : Txd) : List Ac := putL A ((getX A t.snd).1.1, (getX A t.snd).1.2.1 - cosV t, (getX A t.snd).1.2.2 + 1)
def giveJ (A : List Ac) (t : Txd) (j : Nat) : List Ac := (t.tr.take j).foldl givA (subA A t)
def doneL (A : List Ac) (t : Txd) : List Ac := giveJ A t t.tr.length
/-- The first error of a transaction behind its reading. -/
def faultX (A : List Ac) (price : Int) (t : Txd) (size : Int) : Int :=
 if (getX A t.snd).2 = false then 13 else if (getX A t.snd).1.2.2 ≠ t.sq then 14 else if t.sq = 18446744073709551615 then 6
 else if t.gas < usedV size t.tr.length then 15 else if mulB t.gas price = false then 6 else if t.fee < mulV t.gas price then 16
 else if cosB t = false then 6 else if (getX A t.snd).1.2.1 < cosV t then 17 else if 256 < (doneL A t).length then 3 else 0
def txX (A : List Ac) (c price : Int) (L : List Int) : (List Ac × Int) × Res :=
 if valE A c ≠ 0 then ((A, c), zRes 1) else if (decX L).2 ≠ 0 then ((A, c), zRes (decX L).2) else
 if faultX A price (decX L).1 L.length ≠ 0 then ((A, c), ⟨faultX A price (decX L).1 L.length, (decX L).1.snd, (decX L).1.sq, (decX L).1.gas, prioV (decX L).1.fee (decX L).1.gas⟩)
 else ((doneL A (decX L).1, c + (decX L).1.fee), ⟨0, (decX L).1.snd, (decX L).1.sq, (decX L).1.gas, prioV (decX L).1.fee (decX L).1.gas⟩)

theorem get_name {A : List Ac} {s : ByteArray} (h : (getX A s).2 = true) : fndL A s < A.length ∧ (getX A s).1 = aca A (fndL A s) ∧ (getX A s).1.1 = s := by
 unfold getX at *
 by_cases hf : fndL A s < A.length
 ·rw [if_pos hf] at *
  exact ⟨hf, rfl, (fnd_at hf).1⟩
 ·rw [if_neg hf] at h
  cases h
theorem getA_name (A : List Ac) (s : ByteArray) : (getA A s).1 = s := by
 unfold getA
 split
 ·rename_i h; exact (fnd_at h).1
 ·rfl
theorem bals_set {A : List Ac} {i : Nat} {a : Ac} (h : i < A.length) : tot (bals (A.set i a)) = tot (bals A) - (aca A i).2.1 + a.2.1 := by
 have e : A.set i a = A.take i ++ a :: A.drop (i + 1) := List.set_eq_take_append_cons_drop.trans (if_pos h)
 have e2 : A = A.take i ++ aca A i :: A.drop (i + 1) := by rw [aca_get h, List.getElem_cons_drop, List.take_append_drop]
 have h1 : tot (bals (A.set i a)) = tot (bals (A.take i)) + (a.2.1 + tot (bals (A.drop (i + 1)))) := by
  rw [e]; unfold bals; rw [List.map_append, List.map_cons, tot_append, tot_cons]
 have h2 : tot (bals A) = tot (bals (A.take i)) + ((aca A i).2.1 + tot (bals (A.drop (i + 1)))) := by
  conv => lhs; rw [e2]
  unfold bals; rw [List.map_append, List.map_cons, tot_append, tot_cons]
 omega
theorem put_tot (A : List Ac) (a : Ac) : tot (bals (putL A a)) = tot (bals A) - (getA A a.1).2.1 + a.2.1 := by
 by_cases h : fndL A a.1 < A.length
 ·rw [put_found h, bals_set h]; unfold getA; rw [if_pos h]
 ·rw [put_new h]
  have e : tot (bals A) = tot (bals (A.take (lesL A a.1))) + tot (bals (A.drop (lesL A a.1))) := by
   rw [← tot_append]; unfold bals; rw [← List.map_append, List.take_append_drop]
  have h1 : tot (bals (A.take (lesL A a.1) ++ a :: A.drop (lesL A a.1))) = tot (bals (A.take (lesL A a.1))) + (a.2.1 + tot (bals (A.drop (lesL A a.1)))) := by
   unfold bals; rw [List.map_append, List.map_cons, tot_append, tot_cons]
  unfold getA
  rw [if_neg h, h1, e]
  show _ = _ - 0 + _
  omega
theorem giv_tot (A : List Ac) (x : Tf) : tot (bals (givA A x)) = tot (bals A) + x.2 := by
 unfold givA
 rw [put_tot]
 simp only [getA_name]
 omega
theorem sub_tot {A : List Ac} {t : Txd} (h : (getX A t.snd).2 = true) : tot (bals (subA A t)) = tot (bals A) - cosV t := by
 obtain ⟨h1, h2, h3⟩ := get_name h
 unfold subA
 rw [put_tot]
 have e : getA A (getX A t.snd).1.1 = (getX A t.snd).1 := by rw [h3]; unfold getA; rw [if_pos h1, h2]
 simp only [e]
 omega
theorem bal_le {A : List Ac} (hw : AcW A) {i : Nat} (h : i < A.length) : (aca A i).2.1 ≤ tot (bals A) := by
 have h1 := bals_set (a := (mtS, 0, 0)) h
 have h2 : 0 ≤ tot (bals (A.set i (mtS, 0, 0))) := tot_nonneg _ fun x hx => by
  obtain ⟨y, hy, rfl⟩ := List.mem_map.1 hx
  rcases List.mem_or_eq_of_mem_set hy with h3 | h3
  ·exact (acw_mem hw y h3).1.1
  ·subst h3; decide
 have h3 : ((mtS, 0, 0) : Ac).2.1 = 0 := rfl
 omega
theorem getA_w {A : List Ac} (hw : AcW A) (s : ByteArray) : W64 (getA A s).2.1 ∧ W64 (getA A s).2.2 ∧ (getA A s).2.1 ≤ tot (bals A) := by
 unfold getA
 split
 ·rename_i h; exact ⟨(hw _ h).1, (hw _ h).2, bal_le hw h⟩
 ·exact ⟨w64_0, w64_0, tot_nonneg _ fun x hx => by obtain ⟨y, hy, rfl⟩ := List.mem_map.1 hx; exact (acw_mem hw y hy).1.1⟩
/-- The amounts of the first transfers. -/
def amJ (t : Txd) (j : Nat) : Int := tot ((t.tr.take j).map (·.2))
theorem amJ_zero (t : Txd) : amJ t 0 = 0 := rfl
theorem amJ_succ {t : Txd} {j : Nat} (h : j < t.tr.length) : amJ t (j + 1) = amJ t j + (tfa t.tr j).2 := by
 unfold amJ
 rw [List.take_succ_eq_append_getElem h, List.map_append, tot_append, tfa_get h]
 show _ + tot [(t.tr[j]).2] = _
 rw [tot_cons]; show _ + (_ + 0) = _; omega
theorem cos_all (t : Txd) : tot (amts t) = t.fee + amJ t t.tr.length := by
 unfold amts amJ
 rw [tot_cons, List.take_length]
theorem cos_yes {t : Txd} (h : cosB t = true) : cosV t = tot (amts t) ∧ tot (amts t) < 18446744073709551616 := by
 have h1 : tot (amts t) < 18446744073709551616 := of_decide_eq_true h
 exact ⟨if_pos h1, h1⟩
theorem cos_no {t : Txd} (h : cosB t = false) : cosV t = 0 := if_neg (of_decide_eq_false h)
theorem amJ_le {t : Txd} (h : ∀ x, x ∈ t.tr → W64 x.2) (j : Nat) : 0 ≤ amJ t j ∧ amJ t j ≤ amJ t t.tr.length := by
 refine ⟨tot_nonneg _ fun x hx => ?_, ?_⟩
 ·obtain ⟨y, hy, rfl⟩ := List.mem_map.1 hx
  exact (h y (List.mem_of_mem_take hy)).1
 ·unfold amJ
  rw [List.take_length, List.map_take]
  refine tot_take_le _ (fun k hk => ?_) _
  rw [List.length_map] at hk
  rw [List.getD_eq_getElem?_getD, List.getElem?_map, List.getElem?_eq_getElem hk]
  exact h _ (List.getElem_mem hk)
theorem giveJ_succ {A : List Ac} {t : Txd} {j : Nat} (h : j < t.tr.length) : giveJ A t (j + 1) = givA (giveJ A t j) (tfa t.tr j) := by
 unfold giveJ
 rw [List.take_succ_eq_append_getElem h, List.foldl_append, tfa_get h]
 rfl
/-- What holds of the lists on the way: words, and the total. -/
structure GvJ (A : List Ac) (t : Txd) (j : Nat) (B : List Ac) : Prop where
 is : B = giveJ A t j
 w : AcW B
 s : tot (bals B) = tot (bals A) - tot (amts t) + amJ t j
 n : B.length ≤ A.length + j
theorem GvJ.start {A : List Ac} {t : Txd} (hw : AcW A) (hg : (getX A t.snd).2 = true) (hq : (getX A t.snd).1.2.2 < 18446744073709551615) (hc : cosB t = true) (hb : cosV t ≤ (getX A t.snd).1.2.1) (h0 : 0 ≤ cosV t) : GvJ A t 0 (subA A t) := by
 obtain ⟨h1, h2, h3⟩ := get_name hg
 have hwi := hw _ h1
 rw [← h2] at hwi
 obtain ⟨⟨p0, p1⟩, q0, q1⟩ := hwi
 refine ⟨rfl, put_w hw ⟨⟨?_, ?_⟩, ?_, ?_⟩, ?_, ?_⟩
 ·show 0 ≤ _ - _; omega
 ·show _ - _ ≤ _; omega
 ·show 0 ≤ _ + 1; omega
 ·show _ + 1 ≤ _; omega
 ·rw [sub_tot hg, (cos_yes hc).1, amJ_zero]; omega
 ·unfold subA; rw [put_len]; simp only [h3]; rw [if_pos h1]; omega
theorem GvJ.step {A B : List Ac} {t : Txd} {j : Nat} (h : GvJ A t j B) (hj : j < t.tr.length) (hA : tot (bals A) < 18446744073709551616) (ht : ∀ x, x ∈ t.tr → W64 x.2) (hf : 0 ≤ t.fee) : GvJ A t (j + 1) (givA B (tfa t.tr j)) ∧ W64 ((getA B (tfa t.tr j).1).2.1 + (tfa t.tr j).2) := by
 have hx : W64 (tfa t.tr j).2 := ht _ (by rw [tfa_get hj]; exact List.getElem_mem hj)
 obtain ⟨⟨b0, b1⟩, ⟨s0, s1⟩, b2⟩ := getA_w h.w (tfa t.tr j).1
 have hs := h.s
 have e1 := amJ_succ hj
 have l1 := (amJ_le ht (j + 1)).2
 have e2 := cos_all t
 obtain ⟨x0, x1⟩ := hx
 have hW : W64 ((getA B (tfa t.tr j).1).2.1 + (tfa t.tr j).2) := ⟨by omega, by omega⟩
 refine ⟨⟨by rw [giveJ_succ hj, h.is], put_w h.w ⟨hW, s0, s1⟩, by rw [giv_tot, hs, e1]; omega, ?_⟩, hW⟩
 unfold givA
 rw [put_len]
 have := h.n
 split <;> omega
end Go.Proofs.YtglglhcnofbagaaGreat.Lg
namespace Go.Proofs.YtglglhcnofbagaaGreat.Lg
attribute [local irreducible] wpList wpQuiet
set_option maxRecDepth 100000
open Mo (usedV prioV mulB mulV)
open Go.RowKit
set_option linter.unusedSimpArgs false
set_option linter.unusedVariables false

theorem amts_len (t : Txd) : (amts t).length = t.tr.length + 1 := by simp [amts]
def amtJ (t : Txd) (j : Nat) : List Int := t.fee :: (t.tr.take j).map (·.2)
theorem amtJ_succ {t : Txd} {j : Nat} (h : j < t.tr.length) : amtJ t (j + 1) = amtJ t j ++ [(tfa t.tr j).2] := by
 unfold amtJ
 rw [List.take_succ_eq_append_getElem h, List.map_append, tfa_get h]
 rfl
theorem amtJ_len (t : Txd) (j : Nat) : (amtJ t j).length ≤ t.tr.length + 1 := by
 unfold amtJ
 rw [List.length_cons, List.length_map, List.length_take]
 omega
theorem amtJ_all (t : Txd) : amtJ t t.tr.length = amts t := by unfold amtJ amts; rw [List.take_length]
theorem amts_w {t : Txd} (hf : W64 t.fee) (ha : ∀ x, x ∈ t.tr → W64 x.2) : ∀ k, k < (amts t).length → W64 ((amts t).getD k 0) := fun k hk => by
 have hm : ∀ x, x ∈ amts t → W64 x := fun x hx => by
  rcases List.mem_cons.1 hx with h | h
  ·rw [h]; exact hf
  ·obtain ⟨y, hy, rfl⟩ := List.mem_map.1 h
   exact ha y hy
 rw [List.getD_eq_getElem?_getD, List.getElem?_eq_getElem hk]
 exact hm _ (List.getElem_mem hk)
set_option maxRecDepth 100000 in
set_option maxHeartbeats 8000000 in
theorem ref_cost (t : Txd) (a : Option Addr) (k : Nat) (w : World) (hR : Cs w a (tfc t.tr)) (hn : t.tr.length ≤ 100000) (hf : W64 t.fee) (ha : ∀ x, x ∈ t.tr → W64 x.2) :
  Calls Tryz.prog 34 #[.agg (txA t a k)] w fun e w' => e = .returned (.tuple #[.int .u64 (cosV t), .bool (cosB t)]) ∧ Below w.heap.size w w' := by
 have hb0 : Below w.heap.size w (w.alloc (.cells (txA t a k) 46)) := (Below.refl _ w).alloc (Nat.le_refl _) _
 have hX0 : Bx (w.alloc (.cells (txA t a k) 46)) w.heap.size (txA t a k) 46 := heap_alloc_last w _
 have HA := Lib.hid (hR.below hb0)
 have HSM := Lib.hid (fun (al : Option Addr) (cl : Nat) (V : World) (h : Cs V al (u64s (amts t))) => ref_sum al cl (amts t) V (by rw [amts_len]; omega) (fun q hq => by
  obtain ⟨b, off, e, -, h1⟩ := h q (.int .u64 ((amts t).getD q 0)) (by
   unfold u64s
   rw [List.getElem?_map, List.getElem?_eq_getElem hq, List.getD_eq_getElem?_getD, List.getElem?_eq_getElem hq]
   rfl)
  exact ⟨b, off, e, h1⟩) (amts_w hf ha))
 have HST := Lib.hid (fun j (h : j < t.tr.length) => amtJ_succ h)
 have HJL := Lib.hid (amtJ_len t)
 have HJA := Lib.hid (amtJ_all t)
 have HJ0 : Hid (amtJ t 0 = [t.fee]) := Lib.hid (by unfold amtJ; rw [List.take_zero, List.map_nil])
 have HTV : Hid (sumV (amts t) = cosV t ∧ sumB (amts t) = cosB t) := Lib.hid ⟨rfl, rfl⟩
 generalize amtJ t = J at *
 generalize amts t = AM at *
 generalize cosV t = tv at *
 generalize cosB t = tb at *
 obtain ⟨snd, sq, gas, fee, memo, A⟩ := t
 simp only at *
 obtain ⟨n, hnn⟩ : ∃ n, A.length = n := ⟨_, rfl⟩
 have HNL : Hid (n ≤ 100000) := Lib.hid (by omega)
 simp only [txA, hnn] at hb0 hX0 HA HST HJL HJA ⊢
 have HN := Lib.hid hnn
 clear hR hn hnn hf ha
 go_enter Tryz.func34, Tryz.ntmps34
 go_upto_region 1 with fail
 change Code.wp _ _ _ _ (w.alloc (.cells #[.string snd, .int .u64 sq, .int .u64 gas, .int .u64 fee, .string memo, .slice a n k] 46))
 generalize w.alloc (.cells #[.string snd, .int .u64 sq, .int .u64 gas, .int .u64 fee, .string memo, .slice a n k] 46) = W at *
 obtain ⟨g0, hg0⟩ : ∃ g0, w.heap.size = g0 := ⟨_, rfl⟩
 have HB0 := Lib.hid hb0
 rw [hg0] at hX0
 simp only [hg0]
 have HX := Lib.hid hX0
 clear hb0 hg0 hX0
 have hbu := build_u fee W
 have hou := own_u fee W
 refine wl <| gz1 (.pointer (some ⟨g0, 3, none⟩)) <| gzl rfl ⟨g0, 3, none⟩ (.int .u64 fee) (HX.out.load (i := 3) rfl (by kernel_rfl)) ?_
 simp only [pu]
 refine gw_build (by kernel_rfl) (some 9) rfl 36 1 #[(0, .tmp 8)] rfl #[(0, .int .u64 fee)] (by kernel_rfl) (.slice (some ⟨W.heap.size, 0, none⟩) 1 1) _ hbu ?_
 simp only [pu]
 refine gz1 (.slice (some ⟨W.heap.size, 0, none⟩) 1 1) <| wn ?_
 simp only [pu]
 have hb1 : Below W.heap.size W (W.alloc (.cells #[.int .u64 fee] 23)) := (Below.refl _ W).alloc (Nat.le_refl _) _
 clear hbu
 obtain ⟨v1, hv1⟩ : ∃ v1, Value.slice (some ⟨W.heap.size, 0, none⟩) 1 1 = v1 := ⟨_, rfl⟩
 rw [hv1] at hou ⊢
 generalize W.alloc (.cells #[.int .u64 fee] 23) = W1 at *
 have HR1 : Hid (RowU W1 W.heap.size v1 (J 0)) := Lib.hid (by rw [HJ0.out]; exact hou)
 have HB1 := Lib.hid hb1
 have HX1 := Lib.hid (HX.out.below HX.out.lt hb1)
 clear hv1 hou hb1
 go_upto_region 2 with fail
 refine wl <| gz1 (.pointer (some ⟨g0, 5, none⟩)) <| gzl rfl ⟨g0, 5, none⟩ (.slice a n k) (HX1.out.load (i := 5) rfl (by kernel_rfl)) <| gz2 (.int .i64 n) (.int .i64 0) <| wn ?_
 simp only [pu]
 go_wp2_with fail
 go_loopg [4, 13] n (fun gg s4 s13 wx => ∃ (j : Nat) (v4 : Value), s4 = v4 ∧ s13 = .int .i64 j ∧ j ≤ n ∧ Hid (RowU wx W.heap.size v4 (J j)) ∧ Hid (Below W.heap.size W wx) ∧ n - j = gg)
 case atStart => exact ⟨0, v1, rfl, rfl, by omega, HR1, HB1, by omega⟩
 case round =>
  obtain ⟨j, v4, rfl, rfl, hj, HRU, HB, hg⟩ := hrel
  have hn9 := HNL.out
  by_cases hlt : j < n
  ·skip
   obtain ⟨b, off, rfl, -, hrx⟩ := tf_range (HA.out.below HB.out) (k := j) (by rw [HN.out]; exact hlt)
   have HLD := Lib.hid (load_tf hrx)
   have HBS := Lib.hid (HST.out j hlt)
   generalize tfa A j = y at *
   have HG := Lib.hid hg
   obtain ⟨V2, hst, hb2, hbx⟩ := new_tf wr y
   obtain ⟨v3, V3, hap, hr3, hb3⟩ := grow_u (own_below HRU.out hb2) (by have := HB.out.size; have := hb2.size; omega) y.2 (by have := HJL.out j; omega)
   have HR3 : Hid (RowU V3 W.heap.size v3 (J (j + 1))) := Lib.hid (by rw [HBS.out]; exact hr3)
   have HB3 := Lib.hid ((HB.out.trans (hb2.mono HB.out.size)).trans hb3)
   have hbu := build_u y.2 V2
   clear hrx hg hb2 hr3 hb3 HBS
   go_upto_region 3 with fail
   refine wl <| gzb (lss_n rfl (j) (n) dT) <| wn ?_
   simp only [pu]
   go_upto_region 4 with fail
   refine wl <| gzv (.pointer (some ⟨b, off + j * 2, none⟩)) (idx_tf b off n k j hlt _ _ _ rfl (by kernel_rfl) (by kernel_rfl)) <| gzl rfl ⟨b, off + j * 2, none⟩ (.agg (tfA y)) (HLD.out) ?_
   simp only [pu]
   refine run_to rfl (some 6) rfl (.pointer (some ⟨wr.heap.size, 0, none⟩)) (wr.alloc (.cells (tfA zTf) 59)) (by kernel_rfl) ?_
   simp only [pu]
   refine gzs rfl (hst) <| wn ?_
   obtain ⟨g4, hg4⟩ : ∃ g4, wr.heap.size = g4 := ⟨_, rfl⟩
   rw [hg4] at hbx ⊢
   obtain ⟨g5, hg5⟩ : ∃ g5, V2.heap.size = g5 := ⟨_, rfl⟩
   rw [hg5] at hap hbu
   clear hst hg4 hg5 HLD
   go_upto_region 5 with fail
   refine wl <| gz2 (u4) (.pointer (some ⟨g4, 1, none⟩)) <| gzl rfl ⟨g4, 1, none⟩ (.int .u64 y.2) (hbx.load (i := 1) rfl (by kernel_rfl)) ?_
   simp only [pu]
   refine gw_build (by kernel_rfl) (some 20) rfl 36 1 #[(0, .tmp 19)] rfl #[(0, .int .u64 y.2)] (by kernel_rfl) (.slice (some ⟨g5, 0, none⟩) 1 1) _ hbu ?_
   simp only [pu]
   refine append_step rfl (some 21) rfl 36 rfl (.tmp 17) (.tmp 20) 36 rfl (u4) (.slice (some ⟨g5, 0, none⟩) 1 1) (v3) V3 (by kernel_rfl) (by kernel_rfl) hap ?_
   simp only [pu]
   refine gz1 (v3) <| wn ?_
   simp only [pu]
   clear hap hbu hbx
   go_upto_region 6 with fail
   refine wl <| gzw (.int .i64 (j + 1 : Nat)) (add_nat rfl j 1 (by omega)) <| gz1 (.int .i64 (j + 1 : Nat)) <| wn ?_
   simp only [pu]
   go_wp2_with fail
   go_roundg (n - (j + 1))
   case measure => have := HG.out; omega
   case rel => exact ⟨j + 1, v3, rfl, rfl, hlt, HR3, HB3, rfl⟩
  ·skip
   obtain rfl : n = j := by omega
   obtain ⟨al, cl, rfl, hcs, -⟩ := own_cs HRU.out
   rw [HJA.out] at hcs ⊢
   have CS := HSM.out al cl wr hcs
   rw [HTV.out.1, HTV.out.2] at CS
   generalize AM.length = m at *
   have HB9 := Lib.hid (HB0.out.trans (HB.out.mono HB0.out.size))
   clear hg HRU HSM HTV hcs HB
   go_upto_region 3 with fail
   refine wl <| gzb (lss_n rfl (n) (n) dF) <| wn ?_
   simp only [pu]
   go_upto_region 7 with fail
   refine wl <| gz1 (.slice al m cl) <| gzc (.tuple #[.int .u64 tv, .bool tb]) (fun w' => wr = w') (CS) (fun V9 hV9 => ?_)
   subst hV9
   simp only [pu]
   refine gz4 (.int .u64 tv) (.bool tb) (.int .u64 tv) (.bool tb) <| wn ?_
   simp only [pu]
   clear CS
   go_wp2_with fail
   go_ret2
   exact ⟨rfl, HB9.out⟩
set_option maxRecDepth 100000 in
set_option maxHeartbeats 8000000 in
theorem q_cost (t : Txd) (a : Option Addr) (k : Nat) (w : World) (hR : Cs w a (tfc t.tr)) (hn : t.tr.length ≤ 100000) (hf : W64 t.fee) (ha : ∀ x, x ∈ t.tr → W64 x.2) :
  Calls Tryz.prog 76 #[.agg (txA t a k)] w fun e w' => e = .returned (.tuple #[.int .u64 (cosV t), .bool (cosB t)]) ∧ Below w.heap.size w w' := by
 have hb0 : Below w.heap.size w (w.alloc (.cells (txA t a k) 46)) := (Below.refl _ w).alloc (Nat.le_refl _) _
 have hX0 : Bx (w.alloc (.cells (txA t a k) 46)) w.heap.size (txA t a k) 46 := heap_alloc_last w _
 have HA := Lib.hid (hR.below hb0)
 have HSM := Lib.hid (fun (al : Option Addr) (cl : Nat) (V : World) (h : Cs V al (u64s (amts t))) => money_sum al cl (amts t) V (by rw [amts_len]; omega) (fun q hq => by
  obtain ⟨b, off, e, -, h1⟩ := h q (.int .u64 ((amts t).getD q 0)) (by
   unfold u64s
   rw [List.getElem?_map, List.getElem?_eq_getElem hq, List.getD_eq_getElem?_getD, List.getElem?_eq_getElem hq]
   rfl)
  exact ⟨b, off, e, h1⟩) (amts_w hf ha))
 have HST := Lib.hid (fun j (h : j < t.tr.length) => amtJ_succ h)
 have HJL := Lib.hid (amtJ_len t)
 have HJA := Lib.hid (amtJ_all t)
 have HJ0 : Hid (amtJ t 0 = [t.fee]) := Lib.hid (by unfold amtJ; rw [List.take_zero, List.map_nil])
 have HTV : Hid (sumV (amts t) = cosV t ∧ sumB (amts t) = cosB t) := Lib.hid ⟨rfl, rfl⟩
 generalize amtJ t = J at *
 generalize amts t = AM at *
 generalize cosV t = tv at *
 generalize cosB t = tb at *
 obtain ⟨snd, sq, gas, fee, memo, A⟩ := t
 simp only at *
 obtain ⟨n, hnn⟩ : ∃ n, A.length = n := ⟨_, rfl⟩
 have HNL : Hid (n ≤ 100000) := Lib.hid (by omega)
 simp only [txA, hnn] at hb0 hX0 HA HST HJL HJA ⊢
 have HN := Lib.hid hnn
 clear hR hn hnn hf ha
 go_enter Tryz.func76, Tryz.ntmps76
 go_upto_region 1 with fail
 change Code.wp _ _ _ _ (w.alloc (.cells #[.string snd, .int .u64 sq, .int .u64 gas, .int .u64 fee, .string memo, .slice a n k] 46))
 generalize w.alloc (.cells #[.string snd, .int .u64 sq, .int .u64 gas, .int .u64 fee, .string memo, .slice a n k] 46) = W at *
 obtain ⟨g0, hg0⟩ : ∃ g0, w.heap.size = g0 := ⟨_, rfl⟩
 have HB0 := Lib.hid hb0
 rw [hg0] at hX0
 simp only [hg0]
 have HX := Lib.hid hX0
 clear hb0 hg0 hX0
 have hbu := build_u fee W
 have hou := own_u fee W
 refine wl <| gz1 (.pointer (some ⟨g0, 3, none⟩)) <| gzl rfl ⟨g0, 3, none⟩ (.int .u64 fee) (HX.out.load (i := 3) rfl (by kernel_rfl)) ?_
 simp only [pu]
 refine gw_build (by kernel_rfl) (some 9) rfl 36 1 #[(0, .tmp 8)] rfl #[(0, .int .u64 fee)] (by kernel_rfl) (.slice (some ⟨W.heap.size, 0, none⟩) 1 1) _ hbu ?_
 simp only [pu]
 refine gz1 (.slice (some ⟨W.heap.size, 0, none⟩) 1 1) <| wn ?_
 simp only [pu]
 have hb1 : Below W.heap.size W (W.alloc (.cells #[.int .u64 fee] 23)) := (Below.refl _ W).alloc (Nat.le_refl _) _
 clear hbu
 obtain ⟨v1, hv1⟩ : ∃ v1, Value.slice (some ⟨W.heap.size, 0, none⟩) 1 1 = v1 := ⟨_, rfl⟩
 rw [hv1] at hou ⊢
 generalize W.alloc (.cells #[.int .u64 fee] 23) = W1 at *
 have HR1 : Hid (RowU W1 W.heap.size v1 (J 0)) := Lib.hid (by rw [HJ0.out]; exact hou)
 have HB1 := Lib.hid hb1
 have HX1 := Lib.hid (HX.out.below HX.out.lt hb1)
 clear hv1 hou hb1
 go_upto_region 2 with fail
 refine wl <| gz1 (.pointer (some ⟨g0, 5, none⟩)) <| gzl rfl ⟨g0, 5, none⟩ (.slice a n k) (HX1.out.load (i := 5) rfl (by kernel_rfl)) <| gz2 (.int .i64 n) (.int .i64 0) <| wn ?_
 simp only [pu]
 go_wp2_with fail
 go_loopg [4, 13] n (fun gg s4 s13 wx => ∃ (j : Nat) (v4 : Value), s4 = v4 ∧ s13 = .int .i64 j ∧ j ≤ n ∧ Hid (RowU wx W.heap.size v4 (J j)) ∧ Hid (Below W.heap.size W wx) ∧ n - j = gg)
 case atStart => exact ⟨0, v1, rfl, rfl, by omega, HR1, HB1, by omega⟩
 case round =>
  obtain ⟨j, v4, rfl, rfl, hj, HRU, HB, hg⟩ := hrel
  have hn9 := HNL.out
  by_cases hlt : j < n
  ·skip
   obtain ⟨b, off, rfl, -, hrx⟩ := tf_range (HA.out.below HB.out) (k := j) (by rw [HN.out]; exact hlt)
   have HLD := Lib.hid (load_tf hrx)
   have HBS := Lib.hid (HST.out j hlt)
   generalize tfa A j = y at *
   have HG := Lib.hid hg
   obtain ⟨V2, hst, hb2, hbx⟩ := new_tf wr y
   obtain ⟨v3, V3, hap, hr3, hb3⟩ := grow_u (own_below HRU.out hb2) (by have := HB.out.size; have := hb2.size; omega) y.2 (by have := HJL.out j; omega)
   have HR3 : Hid (RowU V3 W.heap.size v3 (J (j + 1))) := Lib.hid (by rw [HBS.out]; exact hr3)
   have HB3 := Lib.hid ((HB.out.trans (hb2.mono HB.out.size)).trans hb3)
   have hbu := build_u y.2 V2
   clear hrx hg hb2 hr3 hb3 HBS
   go_upto_region 3 with fail
   refine wl <| gzb (lss_n rfl (j) (n) dT) <| wn ?_
   simp only [pu]
   go_upto_region 4 with fail
   refine wl <| gzv (.pointer (some ⟨b, off + j * 2, none⟩)) (idx_tf b off n k j hlt _ _ _ rfl (by kernel_rfl) (by kernel_rfl)) <| gzl rfl ⟨b, off + j * 2, none⟩ (.agg (tfA y)) (HLD.out) ?_
   simp only [pu]
   refine run_to rfl (some 6) rfl (.pointer (some ⟨wr.heap.size, 0, none⟩)) (wr.alloc (.cells (tfA zTf) 59)) (by kernel_rfl) ?_
   simp only [pu]
   refine gzs rfl (hst) <| wn ?_
   obtain ⟨g4, hg4⟩ : ∃ g4, wr.heap.size = g4 := ⟨_, rfl⟩
   rw [hg4] at hbx ⊢
   obtain ⟨g5, hg5⟩ : ∃ g5, V2.heap.size = g5 := ⟨_, rfl⟩
   rw [hg5] at hap hbu
   clear hst hg4 hg5 HLD
   go_upto_region 5 with fail
   refine wl <| gz2 (u4) (.pointer (some ⟨g4, 1, none⟩)) <| gzl rfl ⟨g4, 1, none⟩ (.int .u64 y.2) (hbx.load (i := 1) rfl (by kernel_rfl)) ?_
   simp only [pu]
   refine gw_build (by kernel_rfl) (some 20) rfl 36 1 #[(0, .tmp 19)] rfl #[(0, .int .u64 y.2)] (by kernel_rfl) (.slice (some ⟨g5, 0, none⟩) 1 1) _ hbu ?_
   simp only [pu]
   refine append_step rfl (some 21) rfl 36 rfl (.tmp 17) (.tmp 20) 36 rfl (u4) (.slice (some ⟨g5, 0, none⟩) 1 1) (v3) V3 (by kernel_rfl) (by kernel_rfl) hap ?_
   simp only [pu]
   refine gz1 (v3) <| wn ?_
   simp only [pu]
   clear hap hbu hbx
   go_upto_region 6 with fail
   refine wl <| gzw (.int .i64 (j + 1 : Nat)) (add_nat rfl j 1 (by omega)) <| gz1 (.int .i64 (j + 1 : Nat)) <| wn ?_
   simp only [pu]
   go_wp2_with fail
   go_roundg (n - (j + 1))
   case measure => have := HG.out; omega
   case rel => exact ⟨j + 1, v3, rfl, rfl, hlt, HR3, HB3, rfl⟩
  ·skip
   obtain rfl : n = j := by omega
   obtain ⟨al, cl, rfl, hcs, -⟩ := own_cs HRU.out
   rw [HJA.out] at hcs ⊢
   have CS := HSM.out al cl wr hcs
   rw [HTV.out.1, HTV.out.2] at CS
   generalize AM.length = m at *
   have HB9 := Lib.hid (HB0.out.trans (HB.out.mono HB0.out.size))
   clear hg HRU HSM HTV hcs HB
   go_upto_region 3 with fail
   refine wl <| gzb (lss_n rfl (n) (n) dF) <| wn ?_
   simp only [pu]
   go_upto_region 7 with fail
   refine wl <| gz1 (.slice al m cl) <| gzc (.tuple #[.int .u64 tv, .bool tb]) (fun w' => wr = w') (CS) (fun V9 hV9 => ?_)
   subst hV9
   simp only [pu]
   refine gz4 (.int .u64 tv) (.bool tb) (.int .u64 tv) (.bool tb) <| wn ?_
   simp only [pu]
   clear CS
   go_wp2_with fail
   go_ret2
   exact ⟨rfl, HB9.out⟩
end Go.Proofs.YtglglhcnofbagaaGreat.Lg
namespace Go.Proofs.YtglglhcnofbagaaGreat.Lg
attribute [local irreducible] wpList wpQuiet
set_option maxRecDepth 100000
open Mo (usedV prioV mulB mulV)
open Go.RowKit
set_option linter.unusedSimpArgs false
set_option linter.unusedVariables false

section
variable {ρ : Operand → Value} {o : Oper} {x y : Operand}
theorem add_ub (ho : o.op = .binOp .add 23 x y 23) (a b : Int) (h : W64 (a + b)) (hx : ρ x = .int .u64 a) (hy : ρ y = .int .u64 b) (w : World) : (execOp ρ o).run Tryz.prog w = .ok (.value (.int .u64 (a + b))) w := by
 have hw : IntKind.u64.wrap (a + b) = a + b := by obtain ⟨h0, h1⟩ := h; rw [IntKind.wrap_u64]; omega
 unfold execOp
 simp only [ho, hx, hy]
 go_simp
theorem sub_ub (ho : o.op = .binOp .sub 23 x y 23) (a b : Int) (h : W64 (a - b)) (hx : ρ x = .int .u64 a) (hy : ρ y = .int .u64 b) (w : World) : (execOp ρ o).run Tryz.prog w = .ok (.value (.int .u64 (a - b))) w := by
 have hw : IntKind.u64.wrap (a - b) = a - b := by obtain ⟨h0, h1⟩ := h; rw [IntKind.wrap_u64]; omega
 unfold execOp
 simp only [ho, hx, hy]
 go_simp
end
/-- What is asked of the ledger and the transaction that is carried out. -/
structure DnQ (A : List Ac) (c : Int) (t : Txd) : Prop where
 w : AcW A
 cw : W64 c
 n : A.length ≤ 256
 tt : c + tot (bals A) < 18446744073709551616
 g : (getX A t.snd).2 = true
 q : (getX A t.snd).1.2.2 < 18446744073709551615
 cb : cosB t = true
 cv : cosV t ≤ (getX A t.snd).1.2.1
 f : W64 t.fee
 a : ∀ x, x ∈ t.tr → W64 x.2
 m : t.tr.length ≤ 16
theorem DnQ.c0 {A : List Ac} {c : Int} {t : Txd} (h : DnQ A c t) : 0 ≤ cosV t ∧ t.fee ≤ cosV t ∧ cosV t = tot (amts t) := by
 have h1 := (cos_yes h.cb).1
 have h2 := cos_all t
 have h3 := (amJ_le h.a t.tr.length).1
 have := h.f.1
 exact ⟨by omega, by omega, h1⟩
theorem DnQ.j0 {A : List Ac} {c : Int} {t : Txd} (h : DnQ A c t) : GvJ A t 0 (subA A t) := GvJ.start h.w h.g h.q h.cb h.cv h.c0.1
theorem DnQ.js {A B : List Ac} {c : Int} {t : Txd} (h : DnQ A c t) {j : Nat} (hJ : GvJ A t j B) (hj : j < t.tr.length) : GvJ A t (j + 1) (givA B (tfa t.tr j)) ∧ W64 ((getA B (tfa t.tr j).1).2.1 + (tfa t.tr j).2) :=
 hJ.step hj (by have := h.tt; have := h.cw.1; omega) h.a h.f.1
theorem DnQ.yw {A : List Ac} {c : Int} {t : Txd} (h : DnQ A c t) : W64 ((getX A t.snd).1.2.1 - cosV t) ∧ W64 ((getX A t.snd).1.2.2 + 1) := by
 obtain ⟨h1, h2, h3⟩ := get_name h.g
 have hwi := h.w _ h1
 rw [← h2] at hwi
 obtain ⟨⟨p0, p1⟩, q0, q1⟩ := hwi
 have h4 := h.c0.1
 have h5 := h.cv
 have h6 := h.q
 exact ⟨⟨by omega, by omega⟩, by omega, by omega⟩
theorem DnQ.cf {A : List Ac} {c : Int} {t : Txd} (h : DnQ A c t) : W64 (c + t.fee) := by
 obtain ⟨h1, h2, h3⟩ := get_name h.g
 have h4 := bal_le h.w h1
 rw [← h2] at h4
 have h5 := h.c0
 have := h.cv; have := h.tt; have := h.cw.1; have := h.f.1
 exact ⟨by omega, by omega⟩
theorem done_gvJ {A : List Ac} {c : Int} {t : Txd} (h : DnQ A c t) : ∀ j, j ≤ t.tr.length → GvJ A t j (giveJ A t j)
 | 0, _ => h.j0
 | j + 1, hj => by rw [giveJ_succ hj]; exact (h.js (done_gvJ h j (by omega)) hj).1
theorem done_gv {A : List Ac} {c : Int} {t : Txd} (h : DnQ A c t) : GvJ A t t.tr.length (doneL A t) := done_gvJ h _ (Nat.le_refl _)
theorem fnd_cases (B : List Ac) (s : ByteArray) : (fndL B s < B.length ∧ fndI B s = (fndL B s : Nat) ∧ getA B s = aca B (fndL B s)) ∨ (¬ fndL B s < B.length ∧ fndI B s = -1 ∧ getA B s = (s, 0, 0)) := by
 by_cases h : fndL B s < B.length
 ·exact .inl ⟨h, if_pos h, if_pos h⟩
 ·exact .inr ⟨h, if_neg h, if_neg h⟩
/-- A ledger that is handed back in a row of its own. -/
def LedR (w : World) (B : List Ac) (c : Int) (e : Ending) (w' : World) : Prop := ∃ ad k, e = .returned (.agg (lgA ad B.length k c)) ∧ RowA w' w.heap.size (.slice ad B.length k) B ∧ Below w.heap.size w w'
set_option maxRecDepth 100000 in
set_option maxHeartbeats 8000000 in
theorem ref_done (A : List Ac) (c : Int) (t : Txd) (la ta : Option Addr) (lk tk : Nat) (w : World) (hL : Cs w la (acc A)) (hlk : A.length ≤ lk) (hT : Cs w ta (tfc t.tr)) (hQ : DnQ A c t) :
  Calls Tryz.prog 35 #[.agg (lgA la A.length lk c), .agg (txA t ta tk), .int .u64 (cosV t)] w (LedR w (doneL A t) (c + t.fee)) := by
 obtain ⟨hb0, hX3, hX4, hX6⟩ := three_boxes w (lgA la A.length lk c) (txA t ta tk) (lgA none 0 0 0) 25 46 25
 have hA := hL.below hb0
 have hT0 := hT.below hb0
 have HQ := Lib.hid hQ
 have HYW := Lib.hid hQ.yw
 have HCF := Lib.hid hQ.cf
 have HNL : Hid (A.length ≤ 256 ∧ t.tr.length ≤ 16) := Lib.hid ⟨hQ.n, hQ.m⟩
 have HJ0 := Lib.hid hQ.j0
 clear hL hT hQ
 go_enter Tryz.func35, Tryz.ntmps35
 go_upto_region 1 with fail
 change Code.wp _ _ _ _ (((w.alloc (.cells (lgA la A.length lk c) 25)).alloc (.cells (txA t ta tk) 46)).alloc (.cells (lgA none 0 0 0) 25))
 generalize ((w.alloc (.cells (lgA la A.length lk c) 25)).alloc (.cells (txA t ta tk) 46)).alloc (.cells (lgA none 0 0 0) 25) = W at *
 obtain ⟨g3, hg3⟩ : ∃ g3, w.heap.size = g3 := ⟨_, rfl⟩
 obtain ⟨g4, hg4⟩ : ∃ g4, g3 + 1 = g4 := ⟨_, rfl⟩
 obtain ⟨g6, hg6⟩ : ∃ g6, g4 + 1 = g6 := ⟨_, rfl⟩
 have HB0 := Lib.hid hb0
 rw [show w.heap.size + 2 = g6 by omega] at hX6
 rw [show w.heap.size + 1 = g4 by omega] at hX4
 have HG6 : Hid (w.heap.size ≤ g6) := Lib.hid (by omega)
 have HG6L : Hid (g6 < W.heap.size) := Lib.hid hX6.lt
 rw [hg3] at hX3
 simp only [hg3]
 simp only [hg4]
 simp only [hg6]
 have HX3 := Lib.hid hX3
 have HX4 := Lib.hid hX4
 have HX6 := Lib.hid hX6
 have HA := Lib.hid hA
 have HT := Lib.hid hT0
 have CG := ref_get la lk A c t.snd W hA (by have := HNL.out; omega)
 obtain ⟨y, hy⟩ : ∃ y, (getX A t.snd).1 = y := ⟨_, rfl⟩
 have hS : subA A t = putL A (y.1, y.2.1 - cosV t, y.2.2 + 1) := by rw [← hy]; rfl
 rw [HQ.out.g, hy] at CG
 have HS := Lib.hid hS
 rw [hy] at HYW
 clear hb0 hX3 hX4 hX6 hA hT0 hg3 hg4 hg6 hy hS
 refine wl <| gzl rfl ⟨g3, 0, none⟩ (.agg (lgA la A.length lk c)) (load_lg HX3.out) <| gz1 (.pointer (some ⟨g4, 0, none⟩)) <| gzl rfl ⟨g4, 0, none⟩ (.string t.snd) (HX4.out.load (i := 0) rfl (by kernel_rfl)) <|
  gzc (.tuple #[.agg (acA y), .bool true]) (fun w' => Below W.heap.size W w') CG (fun W1 hW1 => ?_)
 obtain ⟨V2, hst2, hb2, hbx2⟩ := new_ac W1 y
 simp only [pu]
 refine gz3 (.tuple #[.agg (acA y), .bool true]) (.agg (acA y)) (.bool true) ?_
 simp only [pu]
 refine run_to rfl (some 7) rfl (.pointer (some ⟨W1.heap.size, 0, none⟩)) (W1.alloc (.cells (acA zAc) 49)) (by kernel_rfl) ?_
 simp only [pu]
 refine gzs rfl (hst2) <| gz1 (.bool true) <| wn ?_
 simp only [pu]
 have hb3 := hW1.trans (hb2.mono hW1.size)
 obtain ⟨g7, hg7⟩ : ∃ g7, W1.heap.size = g7 := ⟨_, rfl⟩
 have hG7 : W.heap.size ≤ g7 := by rw [← hg7]; exact hW1.size
 rw [hg7] at hbx2 ⊢
 obtain ⟨V3, hst3, hX73, hb4, -⟩ := st_cell (i := 1) (ty := 23) (v := .int .u64 (y.2.1 - cosV t)) (cs' := acA (y.1, y.2.1 - cosV t, y.2.2)) hbx2 hb3 hG7 (by show 1 < 3; decide) rfl (by kernel_rfl) rfl
 obtain ⟨V4, hst4, hX74, hb5, -⟩ := st_cell (i := 2) (ty := 23) (v := .int .u64 (y.2.2 + 1)) (cs' := acA (y.1, y.2.1 - cosV t, y.2.2 + 1)) hX73 hb4 hG7 (by show 2 < 3; decide) rfl (by kernel_rfl) rfl
 clear CG hW1 hst2 hb2 hg7
 go_upto_region 2 with fail
 refine wl <| gz1 (.pointer (some ⟨g7, 1, none⟩)) <| gzl rfl ⟨g7, 1, none⟩ (.int .u64 y.2.1) (hbx2.load (i := 1) rfl (by kernel_rfl)) <| gz1 (.int .u64 (cosV t)) <| gzw (.int .u64 (y.2.1 - cosV t)) (sub_ub rfl y.2.1 (cosV t) HYW.out.1) <|
  gz1 (.pointer (some ⟨g7, 1, none⟩)) <| gzs rfl (hst3) <| wn ?_
 simp only [pu]
 go_upto_region 3 with fail
 refine wl <| gz1 (.pointer (some ⟨g7, 2, none⟩)) <| gzl rfl ⟨g7, 2, none⟩ (.int .u64 y.2.2) (hX73.load (i := 2) rfl (by kernel_rfl)) <| gzw (.int .u64 (y.2.2 + 1)) (add_ub rfl y.2.2 1 HYW.out.2) <| gz1 (.pointer (some ⟨g7, 2, none⟩)) <| gzs rfl (hst4) <|
  wpList_nil ?_
 simp only [pu]
 have CP := ref_put la lk A (y.1, y.2.1 - cosV t, y.2.2 + 1) V4 (HA.out.below hb5) hlk (by have := HNL.out; omega)
 rw [← HS.out] at CP
 have HB5 := Lib.hid hb5
 have HX35 := Lib.hid (HX3.out.below HX3.out.lt hb5)
 clear hst3 hst4 hb3 hb4 hbx2 hX73 hb5
 go_upto_region 4 with fail
 refine wl <| gz1 (.pointer (some ⟨g3, 0, none⟩)) <| gzl rfl ⟨g3, 0, none⟩ (.slice la A.length lk) (HX35.out.load (i := 0) rfl (by kernel_rfl)) <| gzl rfl ⟨g7, 0, none⟩ (.agg (acA (y.1, y.2.1 - cosV t, y.2.2 + 1))) (load_acb hX74) <|
  gze (fun v w' => RowA w' V4.heap.size v (subA A t) ∧ Below V4.heap.size V4 w') (CP.mono fun e w' q => by obtain ⟨v, h1, h2, h3⟩ := q; exact ⟨v, h1, h2, h3⟩) (fun vV5 V5 hq => ?_)
 simp only [pu]
 refine gz1 (vV5) <| wn ?_
 simp only [pu]
 obtain ⟨hr5, hb6⟩ := hq
 have HB6 := Lib.hid (HB5.out.trans (hb6.mono HB5.out.size))
 have HR6 := Lib.hid (own_base hr5 HB5.out.size)
 have HX46 := Lib.hid (HX4.out.below HX4.out.lt HB6.out)
 clear CP hX74 hr5 hb6 HX35 HS HYW
 go_upto_region 5 with fail
 refine wl <| gz1 (.pointer (some ⟨g4, 5, none⟩)) <| gzl rfl ⟨g4, 5, none⟩ (.slice ta t.tr.length tk) (HX46.out.load (i := 5) rfl (by kernel_rfl)) <| gz2 (.int .i64 t.tr.length) (.int .i64 0) <| wn ?_
 simp only [pu]
 go_wp2_with fail
 clear HX46
 go_loopg [9, 37] t.tr.length (fun gg s9 s37 wx => ∃ (j : Nat) (B : List Ac) (v9 : Value), s9 = v9 ∧ s37 = .int .i64 j ∧ j ≤ t.tr.length ∧ Hid (GvJ A t j B) ∧ Hid (RowA wx W.heap.size v9 B) ∧ Hid (Below W.heap.size W wx) ∧ t.tr.length - j = gg)
 case atStart => exact ⟨0, subA A t, vV5, rfl, rfl, by omega, HJ0, HR6, HB6, by omega⟩
 case round =>
  obtain ⟨j, B, v9, rfl, rfl, hj, HJ, HR, HB, hg⟩ := hrel
  clear HJ0 HR6 HB6
  obtain ⟨ad, cd, rfl, hcs, hcd⟩ := HR.out.cs
  have hBn : B.length ≤ 300 := by have := HJ.out.n; have := HNL.out; omega
  by_cases hlt : j < t.tr.length
  ·skip
   obtain ⟨b, off, rfl, -, hrx⟩ := tf_range (HT.out.below HB.out) hlt
   have HLD := Lib.hid (load_tf hrx)
   obtain ⟨hJ1, hW1⟩ := HQ.out.js HJ.out hlt
   have hGV : givA B (tfa t.tr j) = putL B ((getA B (tfa t.tr j).1).1, (getA B (tfa t.tr j).1).2.1 + (tfa t.tr j).2, (getA B (tfa t.tr j).1).2.2) := rfl
   have HJ1 := Lib.hid hJ1
   generalize tfa t.tr j = x at *
   have hn16 := HNL.out.2
   have HG := Lib.hid hg
   obtain ⟨V2, hst, hb2, hbx⟩ := new_tf wr x
   obtain ⟨V3, hst3, hb3, hbz⟩ := new_ac V2 (x.1, 0, 0)
   have hbv := hb2.trans (hb3.mono hb2.size)
   have CF := ref_find ad cd B x.1 V3 (hcs.below hbv) (by omega)
   have hcx := fnd_cases B x.1
   generalize givA B x = B2 at *
   generalize getA B x.1 = z at *
   generalize fndI B x.1 = fi at *
   clear hrx hg hJ1 HJ
   go_upto_region 6 with fail
   refine wl <| gzb (lss_n rfl (j) (t.tr.length) dT) <| wn ?_
   simp only [pu]
   go_upto_region 7 with fail
   refine wl <| gzv (.pointer (some ⟨b, off + j * 2, none⟩)) (idx_tf b off t.tr.length tk j hlt _ _ _ rfl (by kernel_rfl) (by kernel_rfl)) <| gzl rfl ⟨b, off + j * 2, none⟩ (.agg (tfA x)) (HLD.out) ?_
   simp only [pu]
   refine run_to rfl (some 11) rfl (.pointer (some ⟨wr.heap.size, 0, none⟩)) (wr.alloc (.cells (tfA zTf) 59)) (by kernel_rfl) ?_
   simp only [pu]
   refine gzs rfl (hst) <| wn ?_
   obtain ⟨g11, hg11⟩ : ∃ g11, wr.heap.size = g11 := ⟨_, rfl⟩
   have hbx3 := hbx.below hbx.lt hb3
   rw [hg11] at hbx hbx3 hst ⊢
   clear hst HLD
   go_upto_region 8 with fail
   refine wl <| gz1 (.pointer (some ⟨g11, 0, none⟩)) <| gzl rfl ⟨g11, 0, none⟩ (.string x.1) (hbx.load (i := 0) rfl (by kernel_rfl)) <| gz1 (.agg #[.string x.1, .int .u64 0, .int .u64 0]) ?_
   simp only [pu]
   refine run_to rfl (some 12) rfl (.pointer (some ⟨V2.heap.size, 0, none⟩)) (V2.alloc (.cells (acA zAc) 49)) (by kernel_rfl) ?_
   simp only [pu]
   refine gzs rfl (hst3) <| wn ?_
   obtain ⟨g12, hg12⟩ : ∃ g12, V2.heap.size = g12 := ⟨_, rfl⟩
   have hG12 : wr.heap.size ≤ g12 := by rw [← hg12]; exact hb2.size
   rw [hg12] at hbz hst3 ⊢
   clear hst3
   go_upto_region 9 with fail
   refine wl <| gz2 (.slice ad B.length cd) (.pointer (some ⟨g11, 0, none⟩)) <| gzl rfl ⟨g11, 0, none⟩ (.string x.1) (hbx3.load (i := 0) rfl (by kernel_rfl)) <| gzc (.int .i64 fi) (fun w' => Below V3.heap.size V3 w') (CF) (fun V4 hV4 => ?_)
   simp only [pu]
   refine gz1 (.int .i64 fi) <| wn ?_
   simp only [pu]
   have hb4 := hbv.trans (hV4.mono hbv.size)
   have hbz4 := hbz.below hbz.lt hV4
   have hbx4 := hbx3.below hbx3.lt hV4
   have hne : g11 ≠ g12 := by rw [← hg11, ← hg12]; have := hbx.lt; rw [← hg11] at this; omega
   clear CF hV4 hbz hbx hbx3 hb2 hb3 hbv hg11 hg12
   rcases hcx with ⟨hf, rfl, rfl⟩ | ⟨hf, rfl, rfl⟩
   ·skip
    obtain ⟨bb, bo, e1, -, hrz⟩ := ac_range (hcs.below hb4) hf
    subst e1
    have HLZ := Lib.hid (load_ac hrz)
    obtain ⟨hst5, hX5⟩ := store_ac (y := aca B (fndL B x.1)) hbz4
    have hX11 := hbx4.but (But.setRow (g := g12) V4 (acA (aca B (fndL B x.1)))) hne
    have hb5 : Below wr.heap.size wr (V4.setRow g12 (acA (aca B (fndL B x.1)))) := belowRow hb4 hG12 _
    generalize fndL B x.1 = fl at *
    generalize aca B fl = z at *
    generalize V4.setRow g12 (acA z) = V5 at *
    clear hrz hbx4 hbz4
    go_upto_region 10 with fail
    refine wl <| gz1 (.int .i64 (fl : Nat)) <| gzb (geq_n rfl (fl : Nat) 0 dT) <| wn ?_
    simp only [pu]
    go_upto_region 11 with fail
    refine wl <| gz2 (.slice (some ⟨bb, bo, none⟩) B.length cd) (.int .i64 (fl : Nat)) <| gzv (.pointer (some ⟨bb, bo + fl * 3, none⟩)) (idx_ac bb bo B.length cd fl hf _ _ _ rfl (by kernel_rfl) (by kernel_rfl)) <| gzl rfl ⟨bb, bo + fl * 3, none⟩ (.agg (acA z)) (HLZ.out) <|
     gzs rfl (hst5) <| wn ?_
    simp only [pu]
    clear hst5 HLZ
    obtain ⟨V6, hst6, hX6b, hb6, -⟩ := st_cell (i := 1) (ty := 23) (v := .int .u64 (z.2.1 + x.2)) (cs' := acA (z.1, z.2.1 + x.2, z.2.2)) hX5 hb5 hG12 (by show 1 < 3; decide) rfl (by kernel_rfl) rfl
    have CP := ref_put (some ⟨bb, bo, none⟩) cd B (z.1, z.2.1 + x.2, z.2.2) V6 (hcs.below hb6) hcd (by omega)
    rw [← hGV] at CP
    go_upto_region 12 with fail
    refine wl <| gz1 (.pointer (some ⟨g12, 1, none⟩)) <| gzl rfl ⟨g12, 1, none⟩ (.int .u64 z.2.1) (hX5.load (i := 1) rfl (by kernel_rfl)) <| gz1 (.pointer (some ⟨g11, 1, none⟩)) <| gzl rfl ⟨g11, 1, none⟩ (.int .u64 x.2) (hX11.load (i := 1) rfl (by kernel_rfl)) <|
     gzw (.int .u64 (z.2.1 + x.2)) (add_ub rfl z.2.1 x.2 hW1) <| gz1 (.pointer (some ⟨g12, 1, none⟩)) <| gzs rfl (hst6) <| wn ?_
    simp only [pu]
    go_upto_region 13 with fail
    refine wl <| gz1 (.slice (some ⟨bb, bo, none⟩) B.length cd) <| gzl rfl ⟨g12, 0, none⟩ (.agg (acA (z.1, z.2.1 + x.2, z.2.2))) (load_acb hX6b) <|
     gze (fun v w' => RowA w' V6.heap.size v (B2) ∧ Below V6.heap.size V6 w') (CP.mono fun e w' q => by obtain ⟨v, h1, h2, h3⟩ := q; exact ⟨v, h1, h2, h3⟩) (fun vV7 V7 hq => ?_)
    simp only [pu]
    refine gz1 (vV7) <| wn ?_
    simp only [pu]
    obtain ⟨hr7, hb7⟩ := hq
    have hb8 := hb6.trans (hb7.mono hb6.size)
    have HB8 := Lib.hid (HB.out.trans (hb8.mono HB.out.size))
    have HR8 := Lib.hid (own_base hr7 (Nat.le_trans HB.out.size hb6.size))
    clear CP hst6 hX6b hb6 hr7 hb7 hb8
    go_upto_region 14 with fail
    refine wl <| gzw (.int .i64 (j + 1 : Nat)) (add_nat rfl j 1 (by omega)) <| gz1 (.int .i64 (j + 1 : Nat)) <| wn ?_
    simp only [pu]
    go_wp2_with fail
    go_roundg (t.tr.length - (j + 1))
    case measure => have := HG.out; omega
    case rel => exact ⟨j + 1, B2, vV7, rfl, rfl, hlt, HJ1, HR8, HB8, rfl⟩
   ·skip
    go_upto_region 10 with fail
    refine wl <| gz1 (.int .i64 (-1)) <| gzb (geq_n rfl (-1) 0 dF) <| wn ?_
    simp only [pu]
    obtain ⟨V6, hst6, hX6b, hb6, -⟩ := st_cell (i := 1) (ty := 23) (v := .int .u64 ((x.1, 0, 0).2.1 + x.2)) (cs' := acA ((x.1, 0, 0).1, (x.1, 0, 0).2.1 + x.2, (x.1, 0, 0).2.2)) hbz4 hb4 hG12 (by show 1 < 3; decide) rfl (by kernel_rfl) rfl
    have CP := ref_put ad cd B ((x.1, 0, 0).1, (x.1, 0, 0).2.1 + x.2, (x.1, 0, 0).2.2) V6 (hcs.below hb6) hcd (by omega)
    rw [← hGV] at CP
    go_upto_region 12 with fail
    refine wl <| gz1 (.pointer (some ⟨g12, 1, none⟩)) <| gzl rfl ⟨g12, 1, none⟩ (.int .u64 (x.1, 0, 0).2.1) (hbz4.load (i := 1) rfl (by kernel_rfl)) <| gz1 (.pointer (some ⟨g11, 1, none⟩)) <| gzl rfl ⟨g11, 1, none⟩ (.int .u64 x.2) (hbx4.load (i := 1) rfl (by kernel_rfl)) <|
     gzw (.int .u64 ((x.1, 0, 0).2.1 + x.2)) (add_ub rfl (x.1, 0, 0).2.1 x.2 hW1) <| gz1 (.pointer (some ⟨g12, 1, none⟩)) <| gzs rfl (hst6) <| wn ?_
    simp only [pu]
    go_upto_region 13 with fail
    refine wl <| gz1 (.slice ad B.length cd) <| gzl rfl ⟨g12, 0, none⟩ (.agg (acA ((x.1, 0, 0).1, (x.1, 0, 0).2.1 + x.2, (x.1, 0, 0).2.2))) (load_acb hX6b) <|
     gze (fun v w' => RowA w' V6.heap.size v (B2) ∧ Below V6.heap.size V6 w') (CP.mono fun e w' q => by obtain ⟨v, h1, h2, h3⟩ := q; exact ⟨v, h1, h2, h3⟩) (fun vV7 V7 hq => ?_)
    simp only [pu]
    refine gz1 (vV7) <| wn ?_
    simp only [pu]
    obtain ⟨hr7, hb7⟩ := hq
    have hb8 := hb6.trans (hb7.mono hb6.size)
    have HB8 := Lib.hid (HB.out.trans (hb8.mono HB.out.size))
    have HR8 := Lib.hid (own_base hr7 (Nat.le_trans HB.out.size hb6.size))
    clear CP hst6 hX6b hb6 hr7 hb7 hb8
    go_upto_region 14 with fail
    refine wl <| gzw (.int .i64 (j + 1 : Nat)) (add_nat rfl j 1 (by omega)) <| gz1 (.int .i64 (j + 1 : Nat)) <| wn ?_
    simp only [pu]
    go_wp2_with fail
    go_roundg (t.tr.length - (j + 1))
    case measure => have := HG.out; omega
    case rel => exact ⟨j + 1, B2, vV7, rfl, rfl, hlt, HJ1, HR8, HB8, rfl⟩
  ·skip
   obtain rfl : t.tr.length = j := by omega
   have hfin : doneL A t = B := (HJ.out.is).symm
   have HX3 := Lib.hid (HX3.out.below HX3.out.lt HB.out)
   have HX4 := Lib.hid (HX4.out.below HX4.out.lt HB.out)
   obtain ⟨hst9, hX9⟩ := store_lg (a' := ad) (n' := B.length) (k' := cd) (c' := c + t.fee) (HX6.out.below HX6.out.lt HB.out)
   have hrow := own_but HR.out (But.setRow (g := g6) wr (lgA ad B.length cd (c + t.fee))) HG6L.out
   have hb9 := belowRow (HB0.out.trans (HB.out.mono HB0.out.size)) HG6.out (lgA ad B.length cd (c + t.fee))
   have HE : Hid (RowA (wr.setRow g6 (lgA ad B.length cd (c + t.fee))) w.heap.size (.slice ad B.length cd) B ∧ Below w.heap.size w (wr.setRow g6 (lgA ad B.length cd (c + t.fee)))) := Lib.hid ⟨own_base hrow HB0.out.size, hb9⟩
   generalize wr.setRow g6 (lgA ad B.length cd (c + t.fee)) = V9 at *
   have HFN := Lib.hid hfin
   clear hrow hb9 HJ hfin hcs
   go_upto_region 6 with fail
   refine wl <| gzb (lss_n rfl (t.tr.length) (t.tr.length) dF) <| wn ?_
   simp only [pu]
   go_upto_region 15 with fail
   refine wl <| gz2 (.slice ad B.length cd) (.pointer (some ⟨g3, 1, none⟩)) <| gzl rfl ⟨g3, 1, none⟩ (.int .u64 c) (HX3.out.load (i := 1) rfl (by kernel_rfl)) <| gz1 (.pointer (some ⟨g4, 3, none⟩)) <| gzl rfl ⟨g4, 3, none⟩ (.int .u64 t.fee) (HX4.out.load (i := 3) rfl (by kernel_rfl)) <|
    gzw (.int .u64 (c + t.fee)) (add_ub rfl c t.fee HCF.out) <| gz1 (.agg (lgA ad B.length cd (c + t.fee))) <| gzs rfl (hst9) <| wn ?_
   simp only [pu]
   go_wp2_with fail
   exact bodyPost_ret (results_1c rfl (by kernel_rfl) (load_lg hX9)) rfl (by show LedR w (doneL A t) (c + t.fee) _ _; rw [HFN.out]; exact ⟨ad, cd, rfl, HE.out⟩)
end Go.Proofs.YtglglhcnofbagaaGreat.Lg
