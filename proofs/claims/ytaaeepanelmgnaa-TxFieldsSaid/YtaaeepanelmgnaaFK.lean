/-
  What the regions of TxFields that insert a field keep.
-/
import Derived.Test.YtaaeepanelmgnaaFN
namespace Go.Proofs.Ytaaeepanelmgnaa
open Go.RowKit
set_option linter.unusedSimpArgs false
set_option linter.unusedVariables false

theorem quo_u8 {ρ : Operand → Value} {o : Oper} {x y : Operand} (ho : o.op = .binOp .quo 5 x y 5) (a : Nat) (ha : a ≤ 255) (hx : ρ x = .int .u8 a) (hy : ρ y = .int .u8 5) (w : World) : (execOp ρ o).run Try.prog w = .ok (.value (.int .u8 (a / 5 : Nat))) w := by
  have e : (a : Int).tdiv 5 = ((a / 5 : Nat) : Int) := by rw [Int.tdiv_eq_ediv_of_nonneg (by omega)]; omega
  have hw : IntKind.u8.wrap ((a / 5 : Nat) : Int) = ((a / 5 : Nat) : Int) := by rw [IntKind.wrap_u8]; omega
  have hw2 : IntKind.u8.wrap ((a : Int) / 5) = (a : Int) / 5 := by rw [IntKind.wrap_u8]; omega
  unfold execOp
  simp only [ho, hx, hy]
  go_simp
theorem RowL.base {w : World} {B B' : Nat} {v : Value} (h : RowL w B' v []) (hB : B ≤ B') : RowL w B v [] := ⟨own_base h.1 hB, fun p hp => by cases hp⟩
/-- What such a region keeps. -/
structure K14 (W : World) (ls : List (Fld × Value)) (x : Nat) (z : Fld) (zb : Option Addr) (zd : Nat) (b0 b4 b9 b10 b14 b15 : Bool) (x93 x97 x102 x103 x107 : Value) (V : World) : Prop where
  bel : Below W.heap.size W V
  o4 : b4 = true → b0 = true
  o10 : b10 = true → b4 = true
  p10 : b10 = true → b9 = true
  o14 : b14 = true → b10 = true
  o15 : b15 = true → b14 = true
  r0 : b0 = true → b4 = false → RowL V W.heap.size x93 []
  r4 : b4 = true → b10 = false → RowL V W.heap.size x97 (ls.take x)
  r9 : b9 = true → b10 = false → ∃ q, x102 = .slice (some ⟨q, 0, none⟩) 1 1 ∧ q < V.heap.size ∧ Bx V q (fdA z zb zd) 54 ∧ (b0 = true → b4 = false → x93.ownBlock ≠ some q) ∧ (b4 = true → x97.ownBlock ≠ some q)
  r10 : b10 = true → b14 = false → RowL V W.heap.size x103 (ls.take x ++ [(z, .slice zb z.bytes.length zd)])
  r14 : b14 = true → RowL V W.heap.size x107 (ls.take x ++ [(z, .slice zb z.bytes.length zd)] ++ ls.drop x)
section
variable {W : World} {ls : List (Fld × Value)} {x : Nat} {z : Fld} {zb : Option Addr} {zd : Nat} {b0 b4 b9 b10 b14 b15 : Bool} {x93 x97 x102 x103 x107 : Value} {V : World}
theorem K14.s0 (h : K14 W ls x z zb zd false b4 b9 b10 b14 b15 x93 x97 x102 x103 x107 V) : K14 W ls x z zb zd true b4 b9 b10 b14 b15 (.slice (some ⟨V.heap.size, 0, none⟩) 0 0) x97 x102 x103 x107 (V.alloc (.cells #[] 54)) := by
  obtain rfl := ff h.o4 rfl
  obtain rfl := ff h.o10 rfl
  obtain rfl := ff h.o14 rfl
  obtain rfl := ff h.o15 rfl
  have hb : Below V.heap.size V (V.alloc (.cells #[] 54)) := (Below.refl _ V).alloc (Nat.le_refl _) _
  exact ⟨h.bel.trans (hb.mono h.bel.size), fun _ => rfl, (fun e => nomatch e), (fun e => nomatch e), (fun e => nomatch e), (fun e => nomatch e), fun _ _ => (nil_l V).base h.bel.size, (fun e => nomatch e), fun e1 e2 => by
    obtain ⟨q, h1, h2, h3, -, -⟩ := h.r9 e1 e2
    refine ⟨q, h1, Nat.lt_of_lt_of_le h2 hb.size, h3.below h2 hb, fun _ _ e => ?_, (fun e => nomatch e)⟩
    have e : some V.heap.size = some q := e
    simp only [Option.some.injEq] at e
    omega, (fun e => nomatch e), (fun e => nomatch e)⟩
theorem K14.s4 (h : K14 W ls x z zb zd true false b9 b10 b14 b15 x93 x97 x102 x103 x107 V) {al : Option Addr} {cl : Nat} (hc : Cs W al (row4 ls)) (hL : ∀ p, p ∈ ls → Lo W W.heap.size p) (hx : x ≤ ls.length) (hn : ls.length ≤ 1000) :
    ∃ v V2, (Builtin.append_ #[50, 50] 50 #[x93, .slice al x cl]).run Try.prog V = .ok v V2 ∧ K14 W ls x z zb zd true true b9 b10 b14 b15 x93 v x102 x103 x107 V2 := by
  obtain rfl := ff h.o10 rfl
  obtain rfl := ff h.o14 rfl
  obtain rfl := ff h.o15 rfl
  have ht : (ls.take x).length = x := by rw [List.length_take]; omega
  obtain ⟨v2, V2, hr, hrow, hb, hg, hat⟩ := grow_lg (h.r0 rfl rfl) h.bel.size al cl (cs_l_to (hc.below h.bel) x) (fun p hp => (hL p (List.mem_of_mem_take hp)).far h.bel) (by rw [ht]; simp only [List.length_nil]; omega)
  rw [ht] at hr
  rw [List.nil_append] at hrow
  exact ⟨v2, V2, hr, h.bel.trans hb, fun _ => rfl, (fun e => nomatch e), (fun e => nomatch e), (fun e => nomatch e), (fun e => nomatch e), (fun _ e => nomatch e), fun _ _ => hrow, fun e1 e2 => by
    obtain ⟨q, h1, h2, h3, h4, -⟩ := h.r9 e1 e2
    have hne := h4 rfl rfl
    refine ⟨q, h1, Nat.lt_of_lt_of_le h2 hg.size, (hg.block q h2 (fun e => hne e.symm)).trans h3, (fun _ e => nomatch e), fun _ e => ?_⟩
    rcases hat with h5 | h5
    · exact hne (h5.symm.trans e)
    · have h6 := h5.symm.trans e
      simp only [Option.some.injEq] at h6
      omega, (fun e => nomatch e), (fun e => nomatch e)⟩
theorem K14.s9 (h : K14 W ls x z zb zd b0 b4 false b10 b14 b15 x93 x97 x102 x103 x107 V) : K14 W ls x z zb zd b0 b4 true b10 b14 b15 x93 x97 (.slice (some ⟨V.heap.size, 0, none⟩) 1 1) x103 x107 (V.alloc (.cells (fdA z zb zd) 54)) := by
  obtain rfl := ff h.p10 rfl
  obtain rfl := ff h.o14 rfl
  obtain rfl := ff h.o15 rfl
  have hb : Below V.heap.size V (V.alloc (.cells (fdA z zb zd) 54)) := (Below.refl _ V).alloc (Nat.le_refl _) _
  refine ⟨h.bel.trans (hb.mono h.bel.size), h.o4, (fun e => nomatch e), (fun e => nomatch e), (fun e => nomatch e), (fun e => nomatch e), fun e1 e2 => (h.r0 e1 e2).below h.bel.size hb, fun e1 e2 => (h.r4 e1 e2).below h.bel.size hb, fun _ _ => ⟨V.heap.size, rfl, by simp, heap_alloc_last V _, fun e1 e2 e => ?_, fun e1 e => ?_⟩, (fun e => nomatch e), (fun e => nomatch e)⟩
  · have := (World.ownsRow.lt (h.r0 e1 e2).1 _ e).2
    omega
  · have := (World.ownsRow.lt (h.r4 e1 rfl).1 _ e).2
    omega
theorem K14.s10 (h : K14 W ls x z zb zd b0 true true false b14 b15 x93 x97 x102 x103 x107 V) (hz : Lo W W.heap.size (z, .slice zb z.bytes.length zd)) (hn : ls.length ≤ 1000) :
    ∃ q v V2, x102 = .slice (some ⟨q, 0, none⟩) 1 1 ∧ (Builtin.append_ #[50, 50] 50 #[x97, .slice (some ⟨q, 0, none⟩) 1 1]).run Try.prog V = .ok v V2 ∧ K14 W ls x z zb zd b0 true true true b14 b15 x93 x97 (.slice (some ⟨q, 0, none⟩) 1 1) v x107 V2 := by
  obtain rfl := ff h.o14 rfl
  obtain rfl := ff h.o15 rfl
  obtain rfl := h.o4 rfl
  obtain ⟨q, rfl, h2, h3, h4, h5⟩ := h.r9 rfl rfl
  have hcs : Cs V (some ⟨q, 0, none⟩) (row4 [(z, .slice zb z.bytes.length zd)]) := Cs.block (t := 54) (fr := (0, 0)) (cs := (fdA z zb zd).toList) h3
  obtain ⟨v2, V2, hr, hrow, hb, hg, hat⟩ := grow_lg (h.r4 rfl rfl) h.bel.size (some ⟨q, 0, none⟩) 1 hcs (fun p hp => by rw [List.mem_singleton] at hp; subst hp; exact hz.far h.bel) (by rw [List.length_take]; simp only [List.length_cons, List.length_nil]; omega)
  exact ⟨q, v2, V2, rfl, hr, h.bel.trans hb, fun _ => rfl, fun _ => rfl, fun _ => rfl, (fun e => nomatch e), (fun e => nomatch e), (fun _ e => nomatch e), (fun _ e => nomatch e), (fun _ e => nomatch e), fun _ _ => hrow, (fun e => nomatch e)⟩
theorem K14.s14 (h : K14 W ls x z zb zd b0 b4 b9 true false b15 x93 x97 x102 x103 x107 V) {al : Option Addr} {cl : Nat} (hc : Cs W al (row4 ls)) (hL : ∀ p, p ∈ ls → Lo W W.heap.size p) (hx : x ≤ ls.length) (hn : ls.length ≤ 1000) (hcl : ls.length ≤ cl) :
    ∃ v V2, (Builtin.append_ #[50, 50] 50 #[x103, .slice (fromS 4 al cl x) (ls.length - x) (cl - x)]).run Try.prog V = .ok v V2 ∧ K14 W ls x z zb zd b0 b4 b9 true true b15 x93 x97 x102 x103 v V2 := by
  obtain rfl := ff h.o15 rfl
  obtain rfl := h.o10 rfl
  obtain rfl := h.p10 rfl
  obtain rfl := h.o4 rfl
  have ht : (ls.drop x).length = ls.length - x := List.length_drop
  obtain ⟨v2, V2, hr, hrow, hb, hg, hat⟩ := grow_lg (h.r10 rfl rfl) h.bel.size (fromS 4 al cl x) (cl - x) (cs_l_from (hc.below h.bel) cl x hcl) (fun p hp => (hL p (List.mem_of_mem_drop hp)).far h.bel) (by rw [ht, List.length_append, List.length_take]; simp only [List.length_cons, List.length_nil]; omega)
  rw [ht] at hr
  exact ⟨v2, V2, hr, h.bel.trans hb, fun _ => rfl, fun _ => rfl, fun _ => rfl, fun _ => rfl, (fun e => nomatch e), (fun _ e => nomatch e), (fun _ e => nomatch e), (fun _ e => nomatch e), (fun _ e => nomatch e), fun _ => hrow⟩
end
end Go.Proofs.Ytaaeepanelmgnaa
