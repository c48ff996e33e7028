/-
  The ledger that is changed: its box, its own row.
-/
import Derived.Test.YtebnlklodokhkaaLX
namespace Go.Proofs.Ytebnlklodokhkaa
open Go.RowKit
set_option linter.unusedSimpArgs false
set_option linter.unusedVariables false

/-- The changed ledger: its box at g, its own row. -/
structure NZ (w0 : World) (g : Nat) (a : Option Addr) (k : Nat) (M : List Ac) (c : Int) (V : World) : Prop where
  bel : Below w0.heap.size w0 V
  ge : w0.heap.size ≤ g
  row : V.ownsRow w0.heap.size 28 3 (.slice a M.length k) M.length (acc M)
  ne : (Value.slice a M.length k).ownBlock ≠ some g
  bx : Bx V g (lgA a M.length k c) 25
theorem NZ.below {w0 V V2 : World} {g k : Nat} {a : Option Addr} {M : List Ac} {c : Int} (h : NZ w0 g a k M c V) (hb : Below V.heap.size V V2) : NZ w0 g a k M c V2 :=
  ⟨h.bel.trans (hb.mono h.bel.size), h.ge, own_below h.row hb, h.ne, h.bx.below h.bx.lt hb⟩
theorem NZ.cs {w0 V : World} {g k : Nat} {a : Option Addr} {M : List Ac} {c : Int} (h : NZ w0 g a k M c V) : Cs V a (acc M) ∧ M.length ≤ k := by
  obtain ⟨a9, k9, e9, h1, h2⟩ := own_cs h.row
  simp only [Value.slice.injEq, true_and] at e9
  obtain ⟨rfl, rfl⟩ := e9
  exact ⟨h1, h2⟩
theorem NZ.coll {w0 V : World} {g k : Nat} {a : Option Addr} {M : List Ac} {c : Int} (h : NZ w0 g a k M c V) (c2 : Int) : ∃ V2, (Instr.storeAt 23 (.pointer (some ⟨g, 1, none⟩)) (.int .u64 c2)).run Try.prog V = .ok () V2 ∧ NZ w0 g a k M c2 V2 := by
  obtain ⟨V2, hst, hbx, hb, hbt⟩ := st_cell (ty := 23) (i := 1) (v := .int .u64 c2) (cs' := lgA a M.length k c2) h.bx h.bel h.ge (by simp) rfl (by kernel_rfl) rfl
  exact ⟨V2, hst, hb, h.ge, own_eq h.row fun q hq => hbt.2 q (World.ownsRow.lt h.row q hq).2 (fun e => h.ne (e ▸ hq)), h.ne, hbx⟩
theorem NZ.put {w0 V : World} {g k k2 n2 : Nat} {a a2 : Option Addr} {M P : List Ac} {c : Int} (h : NZ w0 g a k M c V) (hr : V.ownsRow w0.heap.size 28 3 (.slice a2 n2 k2) n2 (acc P)) (hn : n2 = P.length) (hne : (Value.slice a2 n2 k2).ownBlock ≠ some g) : ∃ V2, (Instr.storeAt 22 (.pointer (some ⟨g, 0, none⟩)) (.slice a2 n2 k2)).run Try.prog V = .ok () V2 ∧ NZ w0 g a2 k2 P c V2 := by
  subst hn
  obtain ⟨V2, hst, hbx, hb, hbt⟩ := st_row (a' := a2) (n' := P.length) (k' := k2) h.bx h.bel h.ge
  exact ⟨V2, hst, hb, h.ge, own_eq hr fun q hq => hbt.2 q (World.ownsRow.lt hr q hq).2 (fun e => hne (e ▸ hq)), hne, hbx⟩
theorem acc_set1 : ∀ (A : List Ac) (i : Nat) (v : Int), i < A.length → (acc A).set (i * 3 + 1) (.int .u64 v) = acc (A.set i ((aca A i).1, v, (aca A i).2.2))
  | x :: r, 0, v, _ => rfl
  | x :: r, i + 1, v, h => by
    have h2 := acc_set1 r i v (by simp only [List.length_cons] at h; omega)
    rw [show (i + 1) * 3 + 1 = i * 3 + 1 + 1 + 1 + 1 by omega]
    show .string x.1 :: .int .u64 x.2.1 :: .int .u64 x.2.2 :: (acc r).set (i * 3 + 1) (.int .u64 v) = acl x ++ acc (r.set i ((aca r i).1, v, (aca r i).2.2))
    rw [h2]
    rfl
theorem NZ.bal {w0 V : World} {g gn k i : Nat} {M : List Ac} {c : Int} (h : NZ w0 g (some ⟨gn, 0, none⟩) k M c V) (hi : i < M.length) (v : Int) : ∃ V2, (Instr.storeAt 23 (.pointer (some ⟨gn, 0 + i * 3 + 1, none⟩)) (.int .u64 v)).run Try.prog V = .ok () V2 ∧ NZ w0 g (some ⟨gn, 0, none⟩) k (M.set i ((aca M i).1, v, (aca M i).2.2)) c V2 := by
  obtain ⟨cur, hcur, hz, hB, -⟩ := own_blk h.row
  have hlen := acc_len M
  have hne : g ≠ gn := fun e => h.ne (by rw [e]; rfl)
  have hst := run_store_cell (ty := 23) hcur (i := 0 + i * 3 + 1) (v := .int .u64 v) (by omega) rfl (by kernel_rfl)
  have ho := own_set h.row (0 + i * 3 + 1) (.int .u64 v) (by omega)
  rw [show (acc M).set (0 + i * 3 + 1) (.int .u64 v) = acc (M.set i ((aca M i).1, v, (aca M i).2.2)) by rw [Nat.zero_add]; exact acc_set1 M i v hi] at ho
  refine ⟨_, hst, h.bel.setCell hB (.int .u64 v), h.ge, by rw [List.length_set]; exact ho, by rw [List.length_set]; exact h.ne, by rw [List.length_set]; exact h.bx.but (But.setCell V (0 + i * 3 + 1) (.int .u64 v)) hne⟩
/-- What the region keeps in which the changed ledger is made. -/
structure K4 (W : World) (M : List Ac) (c : Int) (b0 b3 b6 b7 b8 : Bool) (x39 x42 x12 : Value) (V : World) : Prop where
  bel : Below W.heap.size W V
  c3 : b3 = true → b0 = true
  c6 : b6 = true → b3 = true
  d8 : b8 = true → b0 = true ∧ b3 = true ∧ b7 = true
  r0 : b0 = true → b3 = false → Row W V x39 []
  r1 : b3 = true → b8 = false → Row W V x42 M
  al : b7 = true → b8 = false → ∃ g, x12 = .pointer (some ⟨g, 0, none⟩) ∧ W.heap.size ≤ g ∧ Bx V g (lgA none 0 0 0) 25 ∧ (b0 = true → b3 = false → x39.ownBlock ≠ some g) ∧ (b3 = true → x42.ownBlock ≠ some g)
  fn : b8 = true → ∃ g a k, x12 = .pointer (some ⟨g, 0, none⟩) ∧ x42 = .slice a M.length k ∧ NZ W g a k M c V
theorem K4.start (W : World) (M : List Ac) (c : Int) (x y z : Value) : K4 W M c false false false false false x y z W.drew := ⟨(Below.refl _ W).drew, (fun e => nomatch e), (fun e => nomatch e), (fun e => nomatch e), (fun e => nomatch e), (fun e => nomatch e), (fun e => nomatch e), (fun e => nomatch e)⟩
theorem K4.nil {W V : World} {M : List Ac} {c : Int} {b3 b6 b7 b8 : Bool} {x39 x42 x12 : Value} (h : K4 W M c false b3 b6 b7 b8 x39 x42 x12 V) : K4 W M c true b3 b6 b7 b8 (.slice (some ⟨V.heap.size, 0, none⟩) 0 0) x42 x12 (V.alloc (.cells #[] 28)) := by
  obtain rfl := ff h.c3 rfl
  obtain rfl := ff (fun e => (h.d8 e).1) rfl
  have hb : Below V.heap.size V (V.alloc (.cells #[] 28)) := (Below.refl _ V).alloc (Nat.le_refl _) _
  refine ⟨h.bel.trans (hb.mono h.bel.size), (fun e => nomatch e), h.c6, (fun e => nomatch e), fun _ _ => own_base (own_nil V 28 3) h.bel.size, (fun e => nomatch e), fun e _ => ?_, (fun e => nomatch e)⟩
  obtain ⟨g, h1, h2, h3, -, -⟩ := h.al e rfl
  exact ⟨g, h1, h2, h3.below h3.lt hb, fun _ _ e2 => by have := h3.lt; simp only [Value.ownBlock, Option.some.injEq] at e2; omega, (fun e => nomatch e)⟩
theorem K4.app {W V V2 : World} {M : List Ac} {c : Int} {b6 b7 b8 : Bool} {x39 x42 x12 v : Value} (h : K4 W M c true false b6 b7 b8 x39 x42 x12 V) (hO : Row W V2 v M) (hb : Below W.heap.size V V2) (hg : V.grownBy V2 x39.ownBlock) (hat : v.ownBlock = x39.ownBlock ∨ v.ownBlock = some V.heap.size) : K4 W M c true true false b7 b8 x39 v x12 V2 := by
  obtain rfl := ff (fun e => (h.d8 e).2.1) rfl
  refine ⟨h.bel.trans hb, fun _ => rfl, (fun e => nomatch e), (fun e => nomatch e), (fun _ e => nomatch e), fun _ _ => hO, fun e _ => ?_, (fun e => nomatch e)⟩
  obtain ⟨g, h1, h2, h3, h4, -⟩ := h.al e rfl
  have hn := h4 rfl rfl
  exact ⟨g, h1, h2, (hg.block g h3.lt (Ne.symm hn)).trans h3, (fun _ e => nomatch e), fun _ e => hat.elim (fun q => hn (q.symm.trans e)) fun q => by
    rw [q] at e
    have := h3.lt
    simp only [Option.some.injEq] at e
    omega⟩
theorem K4.alloc {W V : World} {M : List Ac} {c : Int} {b0 b3 b6 b8 : Bool} {x39 x42 x12 : Value} (h : K4 W M c b0 b3 b6 false b8 x39 x42 x12 V) : K4 W M c b0 b3 b6 true b8 x39 x42 (.pointer (some ⟨V.heap.size, 0, none⟩)) (V.alloc (.cells (lgA none 0 0 0) 25)) := by
  obtain rfl := ff (fun e => (h.d8 e).2.2) rfl
  have hb : Below V.heap.size V (V.alloc (.cells (lgA none 0 0 0) 25)) := (Below.refl _ V).alloc (Nat.le_refl _) _
  exact ⟨h.bel.trans (hb.mono h.bel.size), h.c3, h.c6, (fun e => nomatch e), fun e1 e2 => (h.r0 e1 e2).below hb, fun e1 e2 => (h.r1 e1 e2).below hb, fun _ _ => ⟨V.heap.size, rfl, h.bel.size, heap_alloc_last V _, fun e1 e2 => (h.r0 e1 e2).ne, fun e1 => (h.r1 e1 rfl).ne⟩, (fun e => nomatch e)⟩
theorem K4.store {W V : World} {M : List Ac} {c : Int} {b6 : Bool} {x39 x42 x12 : Value} (h : K4 W M c true true b6 true false x39 x42 x12 V) : ∃ g a k V2, x12 = .pointer (some ⟨g, 0, none⟩) ∧ x42 = .slice a M.length k ∧ (Instr.storeAt 25 (.pointer (some ⟨g, 0, none⟩)) (.agg (lgA a M.length k c))).run Try.prog V = .ok () V2 ∧ K4 W M c true true b6 true true x39 (.slice a M.length k) (.pointer (some ⟨g, 0, none⟩)) V2 := by
  obtain ⟨g, rfl, h2, h3, -, h4⟩ := h.al rfl rfl
  have hO := h.r1 rfl rfl
  obtain ⟨a, k, rfl, -, -⟩ := own_cs hO
  have hst := store_lg (a' := a) (n' := M.length) (k' := k) (c' := c) h3
  have hne := h4 rfl
  refine ⟨g, a, k, _, rfl, rfl, hst.1, ⟨belowRow h.bel h2 _, fun _ => rfl, fun _ => rfl, fun _ => ⟨rfl, rfl, rfl⟩, (fun _ e => nomatch e), (fun _ e => nomatch e), (fun _ e => nomatch e), fun _ => ⟨g, a, k, rfl, rfl, belowRow h.bel h2 _, h2, own_eq hO fun q hq => ?_, hne, hst.2⟩⟩⟩
  exact (But.setRow (g := g) V _).2 q (World.ownsRow.lt hO q hq).2 (fun e => hne (e ▸ hq))
/-- What is known of the accounts that are asked about. -/
structure QN (N : List Ac) : Prop where
  w : AcW N
  z : ∀ x, x ∈ N → x.1.size ≤ 140737488355328
  l : N.length ≤ 1000
theorem QN.of {M N : List Ac} {a : Ac} (h : QN M) (ha : (W64 a.2.1 ∧ W64 a.2.2) ∧ a.1.size ≤ 140737488355328) (hm : ∀ x, x ∈ N → x ∈ M ∨ x = a) (hl : N.length ≤ 1000) : QN N :=
  ⟨acw_of fun x hx => (hm x hx).elim (acw_mem h.w x) (fun e => e ▸ ha.1), fun x hx => (hm x hx).elim (h.z x) (fun e => e ▸ ha.2), hl⟩
theorem ins_mem {M : List Ac} {a : Ac} {i : Nat} : ∀ x, x ∈ M.take i ++ [a] ++ M.drop i → x ∈ M ∨ x = a := fun x hx => by
  rcases List.mem_append.1 hx with h | h
  · rcases List.mem_append.1 h with h | h
    · exact .inl (List.mem_of_mem_take h)
    · exact .inr (List.mem_singleton.1 h)
  · exact .inl (List.mem_of_mem_drop h)
theorem set_mem {M : List Ac} {a : Ac} {i : Nat} : ∀ x, x ∈ M.set i a → x ∈ M ∨ x = a := fun x hx => List.mem_or_eq_of_mem_set hx
end Go.Proofs.Ytebnlklodokhkaa
