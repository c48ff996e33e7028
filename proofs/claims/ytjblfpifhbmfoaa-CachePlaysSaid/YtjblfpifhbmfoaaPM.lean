/-
  The program's list in memory. (Out of stage 7.)
-/
import Derived.Test.YtjblfpifhbmfoaaPA
namespace Go.Proofs.Ytjblfpifhbmfoaa
open Go.RowKit
set_option linter.unusedSimpArgs false
set_option linter.unusedVariables false

set_option linter.unusedSimpArgs false
set_option linter.unusedVariables false
def elc (x : El) : List Value := [.int .i64 x.v, .int .i64 x.p, .int .i64 x.n, .bool x.b]
def tc (T : List El) : List Value := T.flatMap elc
theorem tc_cons (x : El) (r : List El) : tc (x :: r) = .int .i64 x.v :: .int .i64 x.p :: .int .i64 x.n :: .bool x.b :: tc r := rfl
theorem tc_app (A B : List El) : tc (A ++ B) = tc A ++ tc B := by simp [tc]
theorem tc_len : ∀ T : List El, (tc T).length = T.length * 4
  | [] => rfl
  | x :: r => by have := tc_len r; rw [tc_cons]; simp; omega
theorem tc_at : ∀ (T : List El) (k : Nat), k < T.length → (tc T)[k * 4]? = some (.int .i64 (T.getD k El.zero).v) ∧ (tc T)[k * 4 + 1]? = some (.int .i64 (T.getD k El.zero).p) ∧ (tc T)[k * 4 + 2]? = some (.int .i64 (T.getD k El.zero).n) ∧ (tc T)[k * 4 + 3]? = some (.bool (T.getD k El.zero).b)
  | [], k, h => absurd h (by simp)
  | x :: r, 0, h => by rw [tc_cons]; exact ⟨rfl, rfl, rfl, rfl⟩
  | x :: r, k + 1, h => by
    have := tc_at r k (by simpa using h)
    rw [tc_cons, show (k + 1) * 4 = k * 4 + 1 + 1 + 1 + 1 by omega, show k * 4 + 1 + 1 + 1 + 1 + 1 = (k * 4 + 1) + 1 + 1 + 1 + 1 by omega, show k * 4 + 1 + 1 + 1 + 1 + 2 = (k * 4 + 2) + 1 + 1 + 1 + 1 by omega, show k * 4 + 1 + 1 + 1 + 1 + 3 = (k * 4 + 3) + 1 + 1 + 1 + 1 by omega]
    simpa [List.getD] using this
theorem tc_one (T : List El) : ∀ u ∈ tc T, u.oneCell' = true := fun u hu => by
  obtain ⟨x, -, hx⟩ := List.mem_flatMap.1 hu
  simp only [elc, List.mem_cons, List.not_mem_nil, or_false] at hx
  rcases hx with rfl | rfl | rfl | rfl <;> rfl
theorem tc_setp : ∀ (T : List El) (k : Nat) (v : Int), k < T.length → (tc T).set (k * 4 + 1) (.int .i64 v) = tc (T.set k { T.getD k El.zero with p := v })
  | [], k, _, h => absurd h (by simp)
  | x :: r, 0, v, h => rfl
  | x :: r, k + 1, v, h => by
    have := tc_setp r k v (by simpa using h)
    rw [tc_cons, show (k + 1) * 4 + 1 = (k * 4 + 1) + 1 + 1 + 1 + 1 by omega, List.set_cons_succ, List.set_cons_succ, List.set_cons_succ, List.set_cons_succ, this]
    rfl
theorem tc_setn : ∀ (T : List El) (k : Nat) (v : Int), k < T.length → (tc T).set (k * 4 + 2) (.int .i64 v) = tc (T.set k { T.getD k El.zero with n := v })
  | [], k, _, h => absurd h (by simp)
  | x :: r, 0, v, h => rfl
  | x :: r, k + 1, v, h => by
    have := tc_setn r k v (by simpa using h)
    rw [tc_cons, show (k + 1) * 4 + 2 = (k * 4 + 2) + 1 + 1 + 1 + 1 by omega, List.set_cons_succ, List.set_cons_succ, List.set_cons_succ, List.set_cons_succ, this]
    rfl
theorem tc_set4 : ∀ (T : List El) (k : Nat) (x : El), k < T.length → ((((tc T).set (k * 4) (.int .i64 x.v)).set (k * 4 + 1) (.int .i64 x.p)).set (k * 4 + 1 + 1) (.int .i64 x.n)).set (k * 4 + 1 + 1 + 1) (.bool x.b) = tc (T.set k x)
  | [], k, _, h => absurd h (by simp)
  | y :: r, 0, x, h => rfl
  | y :: r, k + 1, x, h => by
    have := tc_set4 r k x (by simpa using h)
    rw [tc_cons, show (k + 1) * 4 = k * 4 + 1 + 1 + 1 + 1 by omega]
    rw [show k * 4 + 1 + 1 + 1 + 1 + 1 = (k * 4 + 1) + 1 + 1 + 1 + 1 by omega]
    rw [show k * 4 + 1 + 1 + 1 + 1 + 1 + 1 = (k * 4 + 1 + 1) + 1 + 1 + 1 + 1 by omega]
    rw [show k * 4 + 1 + 1 + 1 + 1 + 1 + 1 + 1 = (k * 4 + 1 + 1 + 1) + 1 + 1 + 1 + 1 by omega]
    simp only [List.set_cons_succ]
    rw [this]
    rfl
/-- One cell of a row of the call's own is written. -/
theorem own_set {w : World} {B e s n c b : Nat} {xs : List Value} (h : w.ownsRow B e s (.slice (some ⟨b, 0, none⟩) n c) n xs) (j : Nat) (v : Value) (hj : j < xs.length) : (w.setCell ⟨b, j, none⟩ v).ownsRow B e s (.slice (some ⟨b, 0, none⟩) n c) n (xs.set j v) := by
  have hlen := h.1
  rcases h.2 with ⟨e0, -⟩ | ⟨g, cap, cur, e0, hb, hg, hn, hm, hc, ht⟩
  · cases e0
  · simp only [Value.slice.injEq, Option.some.injEq, Addr.mk.injEq, and_true, true_and] at e0
    obtain ⟨rfl, rfl⟩ := e0
    refine ⟨by simpa using hlen, .inr ⟨b, c, cur.setIfInBounds j v, rfl, hb, Joins.block_setCell hg v, hn, hm, by simpa using hc, ?_⟩⟩
    rw [Array.toList_setIfInBounds, List.take_set, ht]
theorem own_row {w : World} {B e s n c b : Nat} {xs : List Value} (h : w.ownsRow B e s (.slice (some ⟨b, 0, none⟩) n c) n xs) : ∃ cur, Bx w b cur e ∧ n * s ≤ cur.size ∧ B ≤ b ∧ cur.toList.take (n * s) = xs := by
  rcases h.2 with ⟨e0, -⟩ | ⟨g, cap, cur, e0, hb, hg, hn, hm, hc, ht⟩
  · cases e0
  · simp only [Value.slice.injEq, Option.some.injEq, Addr.mk.injEq, and_true, true_and] at e0
    obtain ⟨rfl, rfl⟩ := e0
    exact ⟨cur, hg, by rw [hc]; exact Nat.mul_le_mul_right _ hn, hb, ht⟩
/-- A row whose block is as it was. -/
theorem own_same {w w' : World} {B e s n c : Nat} {a : Option Addr} {xs : List Value} (h : w.ownsRow B e s (.slice a n c) n xs) (hs : ∀ x, a = some x → w'.heap[x.block]? = w.heap[x.block]?) : w'.ownsRow B e s (.slice a n c) n xs := by
  refine ⟨h.1, ?_⟩
  rcases h.2 with h0 | ⟨g, cap, cur, e0, hb, hg, r⟩
  · exact .inl h0
  · refine .inr ⟨g, cap, cur, e0, hb, ?_, r⟩
    simp only [Value.slice.injEq, true_and] at e0
    rw [← hg]
    exact hs _ e0.1
/-- A row's own base. -/
theorem own_rebase {w : World} {B B' e s n c : Nat} {a : Option Addr} {xs : List Value} (h : w.ownsRow B e s (.slice a n c) n xs) (hB : ∀ x, a = some x → B' ≤ x.block) : w.ownsRow B' e s (.slice a n c) n xs := by
  refine ⟨h.1, ?_⟩
  rcases h.2 with h0 | ⟨g, cap, cur, e0, hb, r⟩
  · exact .inl h0
  · refine .inr ⟨g, cap, cur, e0, ?_, r⟩
    simp only [Value.slice.injEq, true_and] at e0
    exact hB _ e0.1
/-- The list's block. -/
def hd5 (ea : Option Addr) (ec : Nat) (q : PS) : Array Value := #[.slice ea q.T.length ec, .int .i64 q.fi, .int .i64 q.la, .int .i64 q.fr, .int .i64 q.ln]
structure Rp (w : World) (g : Nat) (ea : Option Addr) (ec : Nat) (q : PS) : Prop where
  bx : Bx w g (hd5 ea ec q) 64
  ow : w.ownsRow 0 66 4 (.slice ea q.T.length ec) q.T.length (tc q.T)
  ap : ∀ x, ea = some x → x.block ≠ g
  tn : q.T.length ≤ 100000
  ln : q.ln ≤ 100000
/-- The blocks of a list. -/
def Sg (g : Nat) (ea : Option Addr) (k : Nat) : Prop := k = g ∨ ∃ x, ea = some x ∧ x.block = k
theorem ButS.refl (B : Nat) (S : Nat → Prop) (w : World) : ButS B S w w := ⟨Below.refl _ _, fun _ _ _ => rfl⟩
theorem ButS.trans {B : Nat} {S S2 : Nat → Prop} {a b c : World} (h : ButS B S a b) (k : ButS B S2 b c) (hs : ∀ x, S2 x → S x ∨ a.heap.size ≤ x) : ButS B S a c :=
  ⟨h.1.trans k.1, fun i hi hn => (k.2 i (by have := h.1.size; omega) (fun h2 => (hs i h2).elim hn (by omega))).trans (h.2 i hi hn)⟩
theorem ButS.trans' {B : Nat} {S : Nat → Prop} {a b c : World} (h : ButS B S a b) (k : ButS B S b c) : ButS B S a c := h.trans k fun _ => .inl
theorem ButS.setCell {B : Nat} {S : Nat → Prop} (w : World) (b o : Nat) (v : Value) (hB : B ≤ b) (hS : S b) : ButS B S w (w.setCell ⟨b, o, none⟩ v) :=
  ⟨(Below.refl B w).setCell hB v, fun k _ hn => heap_setCell_other w _ k v (fun e => hn (by rw [e]; exact hS))⟩
theorem Rp.lt {w : World} {g ec : Nat} {ea : Option Addr} {q : PS} (h : Rp w g ea ec q) (k : Nat) (hk : Sg g ea k) : k < w.heap.size := by
  rcases hk with rfl | ⟨x, rfl, rfl⟩
  · exact h.bx.lt
  · exact (h.ow.lt x.block rfl).2
theorem Rp.same {w w' : World} {g ec : Nat} {ea : Option Addr} {q : PS} (h : Rp w g ea ec q) (hs : ∀ k, Sg g ea k → w'.heap[k]? = w.heap[k]?) : Rp w' g ea ec q :=
  { h with bx := (hs g (.inl rfl)).trans h.bx, ow := own_same h.ow fun x hx => hs _ (.inr ⟨x, hx, rfl⟩) }
theorem Rp.below {w w' : World} {g ec : Nat} {ea : Option Addr} {q : PS} (h : Rp w g ea ec q) (hb : Below w.heap.size w w') : Rp w' g ea ec q := h.same fun k hk => hb.block k (h.lt k hk)
theorem Rp.drew {w : World} {g ec : Nat} {ea : Option Addr} {q : PS} (h : Rp w g ea ec q) : Rp { w with drawn := w.drawn + 1 } g ea ec q := h.same fun _ _ => rfl
/-- A field of the list is written. -/
theorem Rp.field {w : World} {g ec : Nat} {ea : Option Addr} {q q' : PS} (h : Rp w g ea ec q) (i : Nat) (v : Value) (hT : q'.T = q.T) (hc : hd5 ea ec q' = (hd5 ea ec q).setIfInBounds i v) (hl : q'.ln ≤ 100000) : Rp (w.setCell ⟨g, i, none⟩ v) g ea ec q' :=
  { bx := by show Bx _ _ _ _; rw [hc]; exact h.bx.setC v
    ow := by rw [hT]; exact own_same h.ow fun x hx => heap_setCell_other w _ _ v (h.ap x hx)
    ap := h.ap, tn := by rw [hT]; exact h.tn, ln := hl }
/-- The address of the elements. -/
theorem Rp.addr {w : World} {g ec : Nat} {ea : Option Addr} {q : PS} (h : Rp w g ea ec q) (k : Nat) (hk : k < q.T.length) : ∃ b, ea = some ⟨b, 0, none⟩ ∧ b ≠ g := by
  rcases h.ow.2 with ⟨-, h0⟩ | ⟨b, cap, cur, e0, -⟩
  · omega
  · simp only [Value.slice.injEq, true_and] at e0
    exact ⟨b, e0.1, h.ap _ e0.1⟩
theorem Rp.put {w : World} {g ec b : Nat} {q q' : PS} (h : Rp w g (some ⟨b, 0, none⟩) ec q) (j : Nat) (v : Value) (hj : j < q.T.length * 4) (hT : (tc q.T).set j v = tc q'.T) (hl : q'.T.length = q.T.length) (hc : hd5 (some ⟨b, 0, none⟩) ec q' = hd5 (some ⟨b, 0, none⟩) ec q) (hln : q'.ln ≤ 100000) : Rp (w.setCell ⟨b, j, none⟩ v) g (some ⟨b, 0, none⟩) ec q' :=
  { bx := by
      show Bx _ _ _ _
      rw [hc]
      exact (heap_setCell_other w ⟨b, j, none⟩ g v (Ne.symm (show b ≠ g from h.ap _ rfl))).trans h.bx
    ow := by
      rw [hl, ← hT]
      exact own_set h.ow j v (by rw [tc_len]; exact hj)
    ap := h.ap, tn := by rw [hl]; exact h.tn, ln := hln }
/-- A cell of an element: read, written. -/
theorem Rp.cell {w : World} {g ec b : Nat} {q : PS} (h : Rp w g (some ⟨b, 0, none⟩) ec q) (j : Nat) (v : Value) (hv : (tc q.T)[j]? = some v) : w.cell? ⟨b, j, none⟩ = some v := by
  have := h.ow.cells (g := b) rfl j v hv
  rw [Go.WideShapes.add_plain, Nat.zero_add] at this
  exact this
theorem Rp.store {w : World} {g ec b : Nat} {q : PS} {ty : TypeId} (h : Rp w g (some ⟨b, 0, none⟩) ec q) (j : Nat) (v : Value) (hj : j < q.T.length * 4) (h1 : v.oneCell' = true) (hs : (Try.prog.info? ty).map (·.size) = some 1) :
    (Instr.storeAt ty (.pointer (some ⟨b, j, none⟩)) v).run Try.prog w = .ok () (w.setCell ⟨b, j, none⟩ v) := by
  obtain ⟨cur, hcur, hz, -, -⟩ := own_row h.ow
  exact run_store_cell hcur (by omega) h1 hs
theorem Rp.there {w : World} {g ec b : Nat} {q : PS} (h : Rp w g (some ⟨b, 0, none⟩) ec q) (k : Nat) (hk : k < q.T.length) : w.there b (k * 4) 4 := fun j hj => by
  obtain ⟨cur, hcur, hz, -, -⟩ := own_row h.ow
  refine ⟨?_, frozen_of_row w b _ _ 66 hcur⟩
  rw [cell_of_row w b _ _ 66 (0, 0) hcur, Array.getElem?_eq_getElem (by omega)]
  rfl
theorem one_El (x : El) : (elc x).toArray.all (·.oneCell') = true := by simp [elc, Value.oneCell']
/-- A whole element is written. -/
theorem Rp.storeEl {w : World} {g ec b : Nat} {q : PS} (h : Rp w g (some ⟨b, 0, none⟩) ec q) (k : Nat) (hk : k < q.T.length) (x : El) :
    (Instr.storeAt 66 (.pointer (some ⟨b, k * 4, none⟩)) (.agg (elc x).toArray)).run Try.prog w = .ok () (w.setCells b (k * 4) (elc x)) :=
  run_storeAt_mid w b (k * 4) 66 (elc x).toArray (h.there k hk) (by kernel_rfl) (one_El x)
theorem Rp.putEl {w : World} {g ec b : Nat} {q : PS} (h : Rp w g (some ⟨b, 0, none⟩) ec q) (k : Nat) (hk : k < q.T.length) (x : El) : Rp (w.setCells b (k * 4) (elc x)) g (some ⟨b, 0, none⟩) ec { q with T := q.T.set k x } := by
  have ht := h.tn
  have e1 := own_set h.ow (k * 4) (.int .i64 x.v) (by rw [tc_len]; omega)
  have e2 := own_set e1 (k * 4 + 1) (.int .i64 x.p) (by rw [List.length_set, tc_len]; omega)
  have e3 := own_set e2 (k * 4 + 1 + 1) (.int .i64 x.n) (by rw [List.length_set, List.length_set, tc_len]; omega)
  have e4 := own_set e3 (k * 4 + 1 + 1 + 1) (.bool x.b) (by rw [List.length_set, List.length_set, List.length_set, tc_len]; omega)
  rw [tc_set4 _ _ _ hk] at e4
  have hne : g ≠ b := Ne.symm (h.ap _ rfl)
  refine { bx := ?_, ow := ?_, ap := h.ap, tn := by simpa using ht, ln := h.ln }
  · show (w.setCells b (k * 4) (elc x)).heap[g]? = _
    have hh : (w.setCells b (k * 4) (elc x)).heap[g]? = w.heap[g]? := by
      show ((((w.setCell ⟨b, k * 4, none⟩ _).setCell ⟨b, k * 4 + 1, none⟩ _).setCell ⟨b, k * 4 + 1 + 1, none⟩ _).setCell ⟨b, k * 4 + 1 + 1 + 1, none⟩ _).heap[g]? = _
      rw [heap_setCell_other _ _ g _ hne, heap_setCell_other _ _ g _ hne, heap_setCell_other _ _ g _ hne, heap_setCell_other _ _ g _ hne]
    rw [hh]
    unfold hd5
    simp only [List.length_set]
    exact h.bx
  · simp only [List.length_set]
    exact e4
theorem ButS.setEl {B : Nat} {S : Nat → Prop} (w : World) (b o : Nat) (x : El) (hB : B ≤ b) (hS : S b) : ButS B S w (w.setCells b o (elc x)) :=
  (((ButS.setCell w b o _ hB hS).trans' (ButS.setCell _ b _ _ hB hS)).trans' (ButS.setCell _ b _ _ hB hS)).trans' (ButS.setCell _ b _ _ hB hS)
theorem idx_P (b n c k : Nat) (hk : k < n) (V : World) (ρ : Operand → Value) (o : Oper) {x y : Operand} (ho : o.op = .indexAddr 62 x y) (hx : ρ x = .slice (some ⟨b, 0, none⟩) n c) (hy : ρ y = .int .i64 k) : (execOp ρ o).run Try.prog V = .ok (.value (.pointer (some ⟨b, k * 4, none⟩))) V := by
  have hs : (sizeOf (Try.prog.elem 62)).run Try.prog V = .ok 4 V := by kernel_rfl
  have hlm : (k : Int) < (n : Int) := by omega
  unfold execOp
  simp only [ho, hx, hy]
  go_simp
end Go.Proofs.Ytjblfpifhbmfoaa
