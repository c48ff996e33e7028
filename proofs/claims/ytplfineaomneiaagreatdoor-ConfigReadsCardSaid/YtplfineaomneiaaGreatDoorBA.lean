/-
  What the texts share: worlds that keep blocks, rows of the call's own, strings, comparisons, stores, configurations.
-/
import Derived.Test.YtplfineaomneiaaGreatDoorAR
import Derived.Test.YtplfineaomneiaaGreatDoorCB
namespace Go.Proofs.YtplfineaomneiaaGreatDoor
open Go.RowKit
set_option maxRecDepth 100000
set_option linter.unusedSimpArgs false
set_option linter.unusedVariables false

def ButS (B : Nat) (S : Nat → Prop) (w w' : World) : Prop := Below B w w' ∧ ∀ k, k < w.heap.size → ¬ S k → w'.heap[k]? = w.heap[k]?
theorem ButS.of_below {B : Nat} {S : Nat → Prop} {w w' : World} (h : Below w.heap.size w w') (hB : B ≤ w.heap.size) : ButS B S w w' := ⟨h.mono hB, fun k hk _ => h.block k hk⟩
theorem Bx.buts {w w' : World} {k t B : Nat} {S : Nat → Prop} {cs : Array Value} (h : Bx w k cs t) (hb : ButS B S w w') (hn : ¬ S k) : Bx w' k cs t := (hb.2 k h.lt hn).trans h
theorem Cs.buts {w w' : World} {B : Nat} {S : Nat → Prop} {a : Option Addr} {cs : List Value} (h : Cs w a cs) (hb : ButS B S w w') (hn : ∀ x, a = some x → ¬ S x.block) : Cs w' a cs := fun j v hj => by
 obtain ⟨b, off, e, hlt, hc⟩ := h j v hj
 refine ⟨b, off, e, Nat.lt_of_lt_of_le hlt hb.1.size, ?_⟩
 rw [← hc]
 unfold World.cell?
 rw [hb.2 b hlt (hn _ e)]
theorem ButS.refl (B : Nat) (S : Nat → Prop) (w : World) : ButS B S w w := ⟨Below.refl _ _, fun _ _ _ => rfl⟩
theorem ButS.trans {B : Nat} {S S2 : Nat → Prop} {a b c : World} (h : ButS B S a b) (k : ButS B S2 b c) (hs : ∀ x, S2 x → S x ∨ a.heap.size ≤ x) : ButS B S a c :=
 ⟨h.1.trans k.1, fun i hi hn => (k.2 i (by have := h.1.size; omega) (fun h2 => (hs i h2).elim hn (by omega))).trans (h.2 i hi hn)⟩
theorem ButS.trans' {B : Nat} {S : Nat → Prop} {a b c : World} (h : ButS B S a b) (k : ButS B S b c) : ButS B S a c := h.trans k fun _ => .inl
theorem ButS.setCell {B : Nat} {S : Nat → Prop} (w : World) (b o : Nat) (v : Value) (hB : B ≤ b) (hS : S b) : ButS B S w (w.setCell ⟨b, o, none⟩ v) :=
 ⟨(Below.refl B w).setCell hB v, fun k _ hn => heap_setCell_other w _ k v (fun e => hn (by rw [e]; exact hS))⟩
/-- One cell of a row of the call's own is written. -/
theorem own_set {w : World} {B e s n c b : Nat} {xs : List Value} (h : w.ownsRow B e s (.slice (some ⟨b, 0, none⟩) n c) n xs) (j : Nat) (v : Value) (hj : j < xs.length) : (w.setCell ⟨b, j, none⟩ v).ownsRow B e s (.slice (some ⟨b, 0, none⟩) n c) n (xs.set j v) := by
 have hlen := h.1
 rcases h.2 with ⟨e0, -⟩ | ⟨g, cap, cur, e0, hb, hg, hn, hm, hc, ht⟩
 ·cases e0
 ·simp only [Value.slice.injEq, Option.some.injEq, Addr.mk.injEq, and_true, true_and] at e0
  obtain ⟨rfl, rfl⟩ := e0
  refine ⟨by simpa using hlen, .inr ⟨b, c, cur.setIfInBounds j v, rfl, hb, Joins.block_setCell hg v, hn, hm, by simpa using hc, ?_⟩⟩
  rw [Array.toList_setIfInBounds, List.take_set, ht]
theorem own_row {w : World} {B e s n c b : Nat} {xs : List Value} (h : w.ownsRow B e s (.slice (some ⟨b, 0, none⟩) n c) n xs) : ∃ cur, Bx w b cur e ∧ n * s ≤ cur.size ∧ B ≤ b ∧ cur.toList.take (n * s) = xs := by
 rcases h.2 with ⟨e0, -⟩ | ⟨g, cap, cur, e0, hb, hg, hn, hm, hc, ht⟩
 ·cases e0
 ·simp only [Value.slice.injEq, Option.some.injEq, Addr.mk.injEq, and_true, true_and] at e0
  obtain ⟨rfl, rfl⟩ := e0
  exact ⟨cur, hg, by rw [hc]; exact Nat.mul_le_mul_right _ hn, hb, ht⟩
/-- A row whose block is as it was. -/
theorem own_same {w w' : World} {B e s n c : Nat} {a : Option Addr} {xs : List Value} (h : w.ownsRow B e s (.slice a n c) n xs) (hs : ∀ x, a = some x → w'.heap[x.block]? = w.heap[x.block]?) : w'.ownsRow B e s (.slice a n c) n xs := by
 refine ⟨h.1, ?_⟩
 rcases h.2 with h0 | ⟨g, cap, cur, e0, hb, hg, r⟩
 ·exact .inl h0
 ·refine .inr ⟨g, cap, cur, e0, hb, ?_, r⟩
  simp only [Value.slice.injEq, true_and] at e0
  rw [← hg]
  exact hs _ e0.1
theorem ButS.sets {B b : Nat} {S : Nat → Prop} (hB : B ≤ b) (hS : S b) : ∀ (vs : List Value) (o : Nat) (w : World), ButS B S w (w.setCells b o vs)
 | [], o, w => ButS.refl _ _ _
 | v :: r, o, w => (ButS.setCell w b o v hB hS).trans' (ButS.sets hB hS r (o + 1) _)
theorem own_sets {B e s n c b : Nat} : ∀ (vs : List Value) (o : Nat) (w : World) (xs : List Value), w.ownsRow B e s (.slice (some ⟨b, 0, none⟩) n c) n xs → o + vs.length ≤ xs.length → (w.setCells b o vs).ownsRow B e s (.slice (some ⟨b, 0, none⟩) n c) n (xs.take o ++ vs ++ xs.drop (o + vs.length))
 | [], o, w, xs, h, _ => by simpa [World.setCells] using h
 | v :: r, o, w, xs, h, hl => by
  rw [List.length_cons] at hl
  have h1 := own_sets r (o + 1) _ _ (own_set h o v (by omega)) (by rw [List.length_set]; omega)
  rw [World.setCells]
  have e : (xs.set o v).take (o + 1) ++ r ++ (xs.set o v).drop (o + 1 + r.length) = xs.take o ++ v :: r ++ xs.drop (o + (v :: r).length) := by
   rw [List.drop_set_of_lt (by omega), List.take_set, List.length_cons, show o + (r.length + 1) = o + 1 + r.length by omega]
   have ho : o < xs.length := by omega
   rw [List.take_add_one, List.getElem?_eq_getElem ho, Option.toList_some, List.set_append_right _ _ (by rw [List.length_take]; omega), List.length_take, Nat.min_eq_left (by omega), Nat.sub_self, List.set_cons_zero]
   simp
  rw [e] at h1
  exact h1
/-- 'append' of one element to a row of the call's own: where the new row lies. -/
theorem app_one {w : World} {P : Program} {t e s bytes : Nat} {v0 : Value} (hu : P.underlying t = some (.slice e)) (hinfo : (P.info? e).map (fun i => (i.zero, i.size, i.bytes)) = some (some v0, s, bytes)) (hzs : v0.cells.size = s) (hs : 0 < s) (hby : bytes ≤ 1000)
  {B n : Nat} {v : Value} {xs : List Value} (hO : w.ownsRow B e s v n xs) (b : Nat) (ys : List Value) (hP : Cs w (some ⟨b, 0, none⟩) ys) (hl : ys.length = s) (h1 : ∀ u ∈ ys, u.oneCell' = true) (hB : B ≤ w.heap.size) (hn : n ≤ 100000) :
  ∃ v' w', (Builtin.append_ #[t, t] t #[v, .slice (some ⟨b, 0, none⟩) 1 1]).run P w = .ok v' w' ∧ w'.ownsRow B e s v' (n + 1) (xs ++ ys) ∧ w.grownBy w' v.ownBlock ∧ (v'.ownBlock = v.ownBlock ∨ v'.ownBlock = some w.heap.size) := by
 obtain ⟨i0, hi, hz0, hz1, hz2⟩ := info_parts hinfo
 obtain ⟨v', w', hr, h2, h3, -, h4⟩ := run_append_own_at (P := P) w B t t e i0 v0 s bytes hu hi hz0 hz1 hz2 hzs hs v n xs hO ⟨b, 0, none⟩ 1 1 ys (by omega) (fun j u hj => by
  obtain ⟨b2, off2, e2, -, hc⟩ := hP j u hj
  simp only [Option.some.injEq, Addr.mk.injEq, and_true] at e2
  obtain ⟨rfl, rfl⟩ := e2
  rw [Addr.add_mid]
  exact hc) h1 (by unfold maxLen; omega) (by have := Nat.mul_le_mul (show n + 1 ≤ 100001 by omega) hby; omega) hB
 exact ⟨v', w', hr, h2, h3, h4⟩

section
variable {α : Type} (f : α → List Value) {s : Nat}
theorem fl_len (hf : ∀ x, (f x).length = s) : ∀ L : List α, (L.flatMap f).length = L.length * s
 | [] => by simp
 | x :: r => by
  rw [List.flatMap_cons, List.length_append, hf x, fl_len hf r, List.length_cons, Nat.add_mul]; omega
theorem fl_at (hf : ∀ x, (f x).length = s) (z : α) : ∀ (L : List α) (i j : Nat), i < L.length → j < s → (L.flatMap f)[i * s + j]? = (f (L.getD i z))[j]?
 | [], i, j, h, _ => by simp at h
 | x :: r, 0, j, _, hj => by
  rw [List.flatMap_cons, Nat.zero_mul, Nat.zero_add, List.getElem?_append_left (by rw [hf x]; exact hj)]; rfl
 | x :: r, i + 1, j, h, hj => by
  rw [List.flatMap_cons, List.getElem?_append_right (by rw [hf x, Nat.add_mul]; omega), hf x, show (i + 1) * s + j - s = i * s + j by rw [Nat.add_mul]; omega, fl_at hf z r i j (by simpa using h) hj]; rfl
theorem fl_take (hf : ∀ x, (f x).length = s) : ∀ (L : List α) (k : Nat), (L.flatMap f).take (k * s) = (L.take k).flatMap f
 | [], k => by simp
 | x :: r, 0 => by simp
 | x :: r, k + 1 => by
  rw [List.flatMap_cons, List.take_succ_cons, List.flatMap_cons, Nat.add_mul, Nat.one_mul, Nat.add_comm, ← hf x, List.take_append, List.take_of_length_le (by omega), hf x, Nat.add_sub_cancel_left, fl_take hf r k]
theorem fl_drop (hf : ∀ x, (f x).length = s) : ∀ (L : List α) (k : Nat), (L.flatMap f).drop (k * s) = (L.drop k).flatMap f
 | [], k => by simp
 | x :: r, 0 => by simp
 | x :: r, k + 1 => by
  rw [List.flatMap_cons, List.drop_succ_cons, Nat.add_mul, Nat.one_mul, Nat.add_comm, ← hf x, List.drop_append, List.drop_of_length_le (by omega), hf x, Nat.add_sub_cancel_left, fl_drop hf r k, List.nil_append]
theorem fl_app (A B : List α) : (A ++ B).flatMap f = A.flatMap f ++ B.flatMap f := List.flatMap_append
theorem fl_part (hf : ∀ x, (f x).length = s) (z : α) {L : List α} {i o : Nat} {y : α} {vs : List Value} (hi : i < L.length) (hy : (f (L.getD i z)).take o ++ vs ++ (f (L.getD i z)).drop (o + vs.length) = f y) (ho : o + vs.length ≤ s) :
  (L.flatMap f).take (i * s + o) ++ vs ++ (L.flatMap f).drop (i * s + o + vs.length) = (L.set i y).flatMap f := by
 have e : L = L.take i ++ L.getD i z :: L.drop (i + 1) := by
  rw [getD_lt L i z hi, ← List.drop_eq_getElem_cons hi, List.take_append_drop]
 have h1 : (L.take i).flatMap f = (L.flatMap f).take (i * s) := (fl_take f hf L i).symm
 have hl : ((L.take i).flatMap f).length = i * s := by rw [fl_len f hf, List.length_take, Nat.min_eq_left (by omega)]
 have h3 : (L.flatMap f) = (L.take i).flatMap f ++ (f (L.getD i z) ++ (L.drop (i + 1)).flatMap f) := by
  conv => lhs; rw [e]
  rw [List.flatMap_append, List.flatMap_cons]
 have hz := hf (L.getD i z)
 rw [List.set_eq_take_append_cons_drop, if_pos hi, List.flatMap_append, List.flatMap_cons, ← hy, h3]
 rw [← hl, Nat.add_assoc, List.take_length_add_append, List.drop_length_add_append, List.take_append_of_le_length (by omega), List.drop_append_of_le_length (by omega)]
 simp only [List.append_assoc]
theorem fl_range {w : World} {a : Option Addr} (hf : ∀ x, (f x).length = s) (hs : 0 < s) (z : α) {L : List α} (h : Cs w a (L.flatMap f)) {i : Nat} (hi : i < L.length) : ∃ b off, a = some ⟨b, off, none⟩ ∧ b < w.heap.size ∧ w.rangeAt b (off + i * s) (f (L.getD i z)) := by
 have hz := hf (L.getD i z)
 have h0 := fl_at f hf z L i 0 hi hs
 rw [List.getElem?_eq_getElem (show 0 < (f (L.getD i z)).length by omega)] at h0
 obtain ⟨b, off, rfl, hb, -⟩ := h _ _ h0
 refine ⟨b, off, rfl, hb, fun j v hj => ?_⟩
 have hjs : j < s := by have := (List.getElem?_eq_some_iff.1 hj).1; omega
 obtain ⟨b2, o2, e2, -, c2⟩ := h _ _ ((fl_at f hf z L i j hi hjs).trans hj)
 simp only [Option.some.injEq, Addr.mk.injEq, and_true] at e2
 obtain ⟨rfl, rfl⟩ := e2
 rw [Nat.add_assoc]
 exact c2
theorem fl_one (h1 : ∀ x, ∀ u ∈ f x, u.oneCell' = true) (L : List α) : ∀ u ∈ L.flatMap f, u.oneCell' = true := fun u hu => by
 obtain ⟨x, -, hx⟩ := List.mem_flatMap.1 hu
 exact h1 x u hx
/-- Part of an element of a row of the call's own is written. -/
theorem own_part (hf : ∀ x, (f x).length = s) (z : α) {w : World} {B e g n c i o : Nat} {L : List α} (h : w.ownsRow B e s (.slice (some ⟨g, 0, none⟩) n c) n (L.flatMap f)) (hi : i < L.length) {y : α} {vs : List Value} (ho : o + vs.length ≤ s)
  (hy : (f (L.getD i z)).take o ++ vs ++ (f (L.getD i z)).drop (o + vs.length) = f y) : (w.setCells g (i * s + o) vs).ownsRow B e s (.slice (some ⟨g, 0, none⟩) n c) n ((L.set i y).flatMap f) := by
 have h1 := own_sets vs (i * s + o) w _ h (by
  rw [fl_len f hf]
  have := Nat.mul_le_mul_right s (show i + 1 ≤ L.length from hi)
  rw [Nat.add_mul] at this; omega)
 rw [fl_part f hf z hi hy ho] at h1
 exact h1
theorem own_there (hf : ∀ x, (f x).length = s) {w : World} {B e g n c i o k : Nat} {L : List α} (h : w.ownsRow B e s (.slice (some ⟨g, 0, none⟩) n c) n (L.flatMap f)) (hn : n = L.length) (hi : i < L.length) (ho : o + k ≤ s) : w.there g (i * s + o) k := fun j hj => by
 obtain ⟨cur, hcur, hz, -, -⟩ := own_row h
 refine ⟨?_, frozen_of_row w g _ _ e hcur⟩
 have := Nat.mul_le_mul_right s (show i + 1 ≤ L.length from hi)
 rw [Nat.add_mul, ← hn] at this
 rw [cell_of_row w g _ _ e (0, 0) hcur, Array.getElem?_eq_getElem (by omega)]
 rfl
end
theorem below_sets {B b : Nat} (hB : B ≤ b) : ∀ (vs : List Value) (o : Nat) (w : World), Below B w (w.setCells b o vs)
 | [], o, w => Below.refl _ _
 | v :: r, o, w => ((Below.refl B w).setCell hB v).trans (below_sets hB r (o + 1) _)
theorem but_sets {b : Nat} : ∀ (vs : List Value) (o : Nat) (w : World), But b w (w.setCells b o vs)
 | [], o, w => But.refl _ _
 | v :: r, o, w => (But.setCell w o v).trans (but_sets r (o + 1) _)

theorem rg_cell {w : World} {b o j : Nat} {cs : List Value} {v : Value} {ty : TypeId} (h : w.rangeAt b o cs) (hv : cs[j]? = some v) (hag : (isAgg ty).run Tryz.prog w = .ok false w) : (Instr.loadAt ty (.pointer (some ⟨b, o + j, none⟩))).run Tryz.prog w = .ok v w := load_cell (h j v hv) hag
theorem bx_range {w : World} {g t : Nat} {cs : List Value} (h : Bx w g cs.toArray t) : w.rangeAt g 0 cs := fun j v hv => by
 rw [cell_of_row w g _ _ _ (0, 0) h]
 simpa using hv
/-- The blocks of an entry. -/
def rb (a : Option Addr) {α : Type} (L : List α) (k : Nat) : Prop := L ≠ [] ∧ ∃ x, a = some x ∧ x.block = k
/-- Cells whose blocks are as they were. -/
theorem cs_same {w w' : World} {a : Option Addr} {cs : List Value} (h : Cs w a cs) (hs : ∀ k, rb a cs k → w'.heap[k]? = w.heap[k]?) : Cs w' a cs := fun j v hj => by
 obtain ⟨b, off, e2, hb, hc⟩ := h j v hj
 have hne : cs ≠ [] := fun q => by rw [q] at hj; simp at hj
 have hb2 := hs b ⟨hne, _, e2, rfl⟩
 refine ⟨b, off, e2, ?_, ?_⟩
 ·have h1 : w.heap[b]? = some w.heap[b] := Array.getElem?_eq_getElem hb
  rw [h1] at hb2
  exact (Array.getElem?_eq_some_iff.1 hb2).1
 ·rw [← hc]
  unfold World.cell?
  rw [hb2]
theorem cs_rlt {w : World} {a : Option Addr} {cs : List Value} (h : Cs w a cs) : ∀ k, rb a cs k → k < w.heap.size := fun k ⟨hne, x, hx, e⟩ => by
 obtain ⟨b, off, e2, hb, -⟩ := h 0 (cs[0]'(List.length_pos_iff.2 hne)) (List.getElem?_eq_getElem _)
 rw [hx] at e2; cases e2; rw [← e]; exact hb
theorem results_1c {fn : Func} {tmps : Array Value} {w : World} {p g ty : Nat} {v : Value} (hr : fn.results = #[.cell p ty]) (h2 : tmps.getD p undef = .pointer (some ⟨g, 0, none⟩)) (hl : (Instr.loadAt ty (.pointer (some ⟨g, 0, none⟩))).run Tryz.prog w = .ok v w) : (results fn tmps).run Tryz.prog w = .ok v w := by
 unfold results
 rw [hr]
 have h2' : tmps[p]?.getD undef = .pointer (some ⟨g, 0, none⟩) := by simpa using h2
 have hl' := hl
 simp only [Instr.loadAt, Instr.sureAddr, Sem.run_bind, Sem.run_pure, Result.andThen_ok] at hl'
 simp [h2', asAddr, hl', Result.andThen]
theorem results_c {fn : Func} {tmps : Array Value} {w : World} {p q g ty : Nat} {v u : Value} (hr : fn.results = #[.cell p ty, .tmp q]) (h2 : tmps.getD p undef = .pointer (some ⟨g, 0, none⟩)) (hl : (Instr.loadAt ty (.pointer (some ⟨g, 0, none⟩))).run Tryz.prog w = .ok v w) (h3 : tmps.getD q undef = u) : (results fn tmps).run Tryz.prog w = .ok (.tuple #[v, u]) w := by
 unfold results
 rw [hr]
 have h2' : tmps[p]?.getD undef = .pointer (some ⟨g, 0, none⟩) := by simpa using h2
 have h3' : tmps[q]?.getD undef = u := by simpa using h3
 have hl' := hl
 simp only [Instr.loadAt, Instr.sureAddr, Sem.run_bind, Sem.run_pure, Result.andThen_ok] at hl'
 simp [h2', h3', asAddr, hl', Result.andThen]
section
variable {ρ : Operand → Value} {o : Oper} {x y : Operand}
theorem neq_n (ho : o.op = .binOp .neq 3 x y 3) (a b : Int) {t : Bool} (ht : decide (a ≠ b) = t) (hx : ρ x = .int .i64 a) (hy : ρ y = .int .i64 b) (w : World) : (execOp ρ o).run Tryz.prog w = .ok (.value (.bool t)) w := by
 have e : (a != b) = t := by rw [← ht]; by_cases h : a = b <;> simp [h]
 unfold execOp
 simp only [ho, hx, hy]
 go_simp
theorem eql_w (ho : o.op = .binOp .eql 28 x y 28) (a b : Int) {t : Bool} (ht : decide (a = b) = t) (hx : ρ x = .int .u64 a) (hy : ρ y = .int .u64 b) (w : World) : (execOp ρ o).run Tryz.prog w = .ok (.value (.bool t)) w := by
 have e : (a == b) = t := ht
 unfold execOp
 simp only [ho, hx, hy]
 go_simp
theorem add_i (ho : o.op = .binOp .add 3 x y 3) (a b : Int) (h : -1000000000000 ≤ a + b ∧ a + b ≤ 1000000000000) (hx : ρ x = .int .i64 a) (hy : ρ y = .int .i64 b) (w : World) : (execOp ρ o).run Tryz.prog w = .ok (.value (.int .i64 (a + b))) w := by
 have hw : IntKind.i64.wrap (a + b) = a + b := by rw [IntKind.wrap_i64]; omega
 unfold execOp
 simp only [ho, hx, hy]
 go_simp
theorem sub_i (ho : o.op = .binOp .sub 3 x y 3) (a b : Int) (h : -1000000000000 ≤ a - b ∧ a - b ≤ 1000000000000) (hx : ρ x = .int .i64 a) (hy : ρ y = .int .i64 b) (w : World) : (execOp ρ o).run Tryz.prog w = .ok (.value (.int .i64 (a - b))) w := by
 have hw : IntKind.i64.wrap (a - b) = a - b := by rw [IntKind.wrap_i64]; omega
 unfold execOp
 simp only [ho, hx, hy]
 go_simp
theorem conv_iu (ho : o.op = .convert 3 28 x) (a : Int) (h0 : 0 ≤ a) (h1 : a ≤ 1000000) (hx : ρ x = .int .i64 a) (w : World) : (execOp ρ o).run Tryz.prog w = .ok (.value (.int .u64 a)) w := by
 have hw : IntKind.u64.wrap a = a := by rw [IntKind.wrap_u64]; omega
 unfold execOp
 simp only [ho, hx]
 go_simp
end
theorem gtr_n {ρ : Operand → Value} {o : Oper} {x y : Operand} (ho : o.op = .binOp .gtr 3 x y 3) (a b : Int) {t : Bool} (ht : decide (b < a) = t) (hx : ρ x = .int .i64 a) (hy : ρ y = .int .i64 b) (w : World) : (execOp ρ o).run Tryz.prog w = .ok (.value (.bool t)) w := by
 rw [← ht]
 unfold execOp
 simp only [ho, hx, hy]
 go_simp
theorem eql_n {ρ : Operand → Value} {o : Oper} {x y : Operand} (ho : o.op = .binOp .eql 3 x y 3) (a b : Int) {t : Bool} (ht : decide (a = b) = t) (hx : ρ x = .int .i64 a) (hy : ρ y = .int .i64 b) (w : World) : (execOp ρ o).run Tryz.prog w = .ok (.value (.bool t)) w := by
 have e : (a == b) = t := ht
 unfold execOp
 simp only [ho, hx, hy]
 go_simp
theorem eql_s {ρ : Operand → Value} {o : Oper} {x y : Operand} (ho : o.op = .binOp .eql 9 x y 9) (a b : ByteArray) {t : Bool} (ht : (a == b) = t) (hx : ρ x = .string a) (hy : ρ y = .string b) (w : World) : (execOp ρ o).run Tryz.prog w = .ok (.value (.bool t)) w := by
 have e : (a.toList == b.toList) = t := by rw [← beq_toListBytes]; exact ht
 unfold execOp
 simp only [ho, hx, hy]
 go_simp
theorem st_fld {w : World} {g t i : Nat} {cs : Array Value} (cs' : Array Value) {v : Value} {ty : TypeId} (h : Bx w g cs t) (hi : i < cs.size) (hc : cs.setIfInBounds i v = cs') (h1 : v.oneCell' = true) (hs : (Tryz.prog.info? ty).map (·.size) = some 1) : ∃ V2, (Instr.storeAt ty (.pointer (some ⟨g, i, none⟩)) v).run Tryz.prog w = .ok () V2 ∧ Bx V2 g cs' t ∧ But g w V2 :=
 ⟨_, run_store_cell h hi h1 hs, by rw [← hc]; exact h.setC v, But.setCell w i v⟩
theorem st_all {w : World} {g t : Nat} {cs cs' : Array Value} {ty : TypeId} (h : Bx w g cs t) (hz : cs.size = cs'.size) (h1 : cs'.all (·.oneCell') = true) (hs : (Tryz.prog.info? ty).map (·.size) = some cs'.size) : ∃ V2, (Instr.storeAt ty (.pointer (some ⟨g, 0, none⟩)) (.agg cs')).run Tryz.prog w = .ok () V2 ∧ Bx V2 g cs' t ∧ But g w V2 :=
 ⟨_, run_store_all h hz h1 hs, h.set, But.setRow w cs'⟩
theorem own_butq {w w' : World} {g B e size n c : Nat} {a : Option Addr} {xs : List Value} (h : w.ownsRow B e size (.slice a n c) n xs) (hb : But g w w') (hn : ∀ x, a = some x → x.block ≠ g) : w'.ownsRow B e size (.slice a n c) n xs := own_same h fun x hx => hb.2 _ (h.lt x.block (by rw [hx]; rfl)).2 (hn x hx)
theorem rg_below {w w' : World} {b o : Nat} {cs : List Value} (h : w.rangeAt b o cs) (hb : Below w.heap.size w w') : w'.rangeAt b o cs := fun j v hv => by
 have := h j v hv
 exact (hb.cell (p := ⟨b, o + j, none⟩) (World.block_lt_of_cell? w _ this)).trans this
/-- A new box that is written at once. -/
theorem new_bx {c c' : Array Value} {ty : TypeId} (w : World) (hz : c.size = c'.size) (h1 : c'.all (·.oneCell') = true) (hs : (Tryz.prog.info? ty).map (·.size) = some c'.size) : ∃ V, (Instr.storeAt ty (.pointer (some ⟨w.heap.size, 0, none⟩)) (.agg c')).run Tryz.prog (w.alloc (.cells c ty)) = .ok () V ∧ Below w.heap.size w V ∧ Bx V w.heap.size c' ty := by
 obtain ⟨V, hst, hX, hbt⟩ := st_all (cs' := c') (ty := ty) (heap_alloc_last w (.cells c ty) : Bx _ _ c ty) hz h1 hs
 exact ⟨V, hst, ((Below.refl _ w).alloc (Nat.le_refl _) _).trans hbt.1, hX⟩
theorem ffw {a b : Bool} (h : a = true → b = true) (hb : b = false) : a = false := by
 cases a with
 | false => rfl
 | true => rw [h rfl] at hb; cases hb
theorem sub_nat {ρ : Operand → Value} {o : Oper} {x y : Operand} (ho : o.op = .binOp .sub 3 x y 3) (n : Nat) (h : 0 < n) (h2 : n ≤ 1000000) (hx : ρ x = .int .i64 n) (hy : ρ y = .int .i64 1) (w : World) : (execOp ρ o).run Tryz.prog w = .ok (.value (.int .i64 ((n - 1 : Nat) : Int))) w := by
 have := sub_i ho n 1 (by omega) hx hy w
 rwa [show (n : Int) - 1 = ((n - 1 : Nat) : Int) by omega] at this
theorem own_same2 {w w' : World} {B e s n n2 c : Nat} {a : Option Addr} {xs : List Value} (h : w.ownsRow B e s (.slice a n c) n2 xs) (hs : ∀ x, a = some x → w'.heap[x.block]? = w.heap[x.block]?) : w'.ownsRow B e s (.slice a n c) n2 xs := by
 refine ⟨h.1, ?_⟩
 rcases h.2 with h0 | ⟨g, cap, cur, e0, hb, hg, r⟩
 ·exact .inl h0
 ·refine .inr ⟨g, cap, cur, e0, hb, ?_, r⟩
  simp only [Value.slice.injEq, true_and] at e0
  rw [← hg]
  exact hs _ e0.1
theorem str_self (s : ByteArray) : (s == s) = true := by
 rw [beq_toListBytes]
 exact beq_self_eq_true _
/-- A value that is a slice. -/
def IsSl (v : Value) : Prop := ∃ a n c, v = .slice a n c
theorem own_vs {w : World} {B e s n : Nat} {v : Value} {xs : List Value} (h : w.ownsRow B e s v n xs) : IsSl v := by
 obtain ⟨a, c, e, -⟩ := own_cs h
 exact ⟨a, n, c, e⟩
theorem own_nc {w : World} {B e s n n2 c : Nat} {a : Option Addr} {xs : List Value} (h : w.ownsRow B e s (.slice a n c) n2 xs) : Cs w a xs ∧ n2 ≤ c := by
 obtain ⟨a2, c2, e2, h1, h2⟩ := own_cs h
 simp only [Value.slice.injEq] at e2
 obtain ⟨rfl, -, rfl⟩ := e2
 exact ⟨h1, h2⟩
theorem own_rb {w : World} {B e s n n2 c : Nat} {a : Option Addr} {xs : List Value} (h : w.ownsRow B e s (.slice a n c) n2 xs) {k : Nat} (hk : rb a xs k) : B ≤ k := by
 obtain ⟨-, x, hx, rfl⟩ := hk
 exact (h.lt x.block (by rw [hx]; rfl)).1
theorem own_rb' {w : World} {B e s n n2 c : Nat} {a : Option Addr} {xs : List Value} (h : w.ownsRow B e s (.slice a n c) n2 xs) {ys : List Value} {k : Nat} (hk : rb a ys k) : B ≤ k := by
 obtain ⟨-, x, hx, rfl⟩ := hk
 exact (h.lt x.block (by rw [hx]; rfl)).1
section
variable {P : Program} {t e s bytes : Nat} {z : Value}
/-- 'append' of any part to a row of the call's own: where the new row lies. -/
theorem app_at (hu : P.underlying t = some (.slice e)) (hinfo : (P.info? e).map (fun i => (i.zero, i.size, i.bytes)) = some (some z, s, bytes)) (hzs : z.cells.size = s) (hs : 0 < s) (hby : bytes ≤ 1000)
  {w : World} {B n m : Nat} {v : Value} {xs : List Value} (hO : w.ownsRow B e s v n xs) (pa : Option Addr) (cp : Nat) (ys : List Value) (hP : Cs w pa ys) (hl : ys.length = m * s) (h1 : ∀ u ∈ ys, u.oneCell' = true) (hB : B ≤ w.heap.size) (hn : n ≤ 100000) (hm : m ≤ 100000) :
  ∃ v' w', (Builtin.append_ #[t, t] t #[v, .slice pa m cp]).run P w = .ok v' w' ∧ w'.ownsRow B e s v' (n + m) (xs ++ ys) ∧ Below B w w' ∧ w.grownBy w' v.ownBlock ∧ (v'.ownBlock = v.ownBlock ∨ v'.ownBlock = some w.heap.size) := by
 obtain ⟨i0, hi, hz0, hz1, hz2⟩ := info_parts hinfo
 by_cases hy : ys = []
 ·subst hy
  obtain rfl : m = 0 := by
   rcases Nat.eq_zero_or_pos m with h | h
   ·exact h
   ·have := Nat.mul_pos h hs
    rw [← hl] at this
    simp at this
  cases pa with
  | none =>
   refine ⟨v, w, ?_, by simpa using hO, Below.refl _ _, World.grownBy.refl w _, .inl rfl⟩
   rcases hO.2 with ⟨rfl, h0⟩ | ⟨g, cap, cur, rfl, _, _, hnc, _⟩
   ·simp [Builtin.append_, run_underlying hu, sizeOf, typeInfo, hi, Builtin.lenOf, Builtin.firstCells]
   ·simp [Builtin.append_, run_underlying hu, sizeOf, typeInfo, hi, Builtin.lenOf, Builtin.firstCells, hnc, storeCells]
  | some x =>
   obtain ⟨v', w', hr, h2, h3, -, h4⟩ := run_append_own_at (P := P) w B t t e i0 z s bytes hu hi hz0 hz1 hz2 hzs hs v n xs hO x 0 cp [] (by simp) (fun j u h => by simp at h) (by simp) (by unfold maxLen; omega) (by have := Nat.mul_le_mul (show n + 0 ≤ 100000 by omega) hby; omega) hB
   exact ⟨v', w', hr, h2, (Below.refl _ w).grown h3 hB (fun j hj => (hO.lt j hj).1), h3, h4⟩
 ·obtain ⟨y, hy0⟩ : ∃ y, ys[0]? = some y := by
   cases ys with
   | nil => exact absurd rfl hy
   | cons y r => exact ⟨y, rfl⟩
  obtain ⟨b, off, rfl, -⟩ := hP 0 y hy0
  have hcells : ∀ j u, ys[j]? = some u → w.cell? ((⟨b, off, none⟩ : Addr).add j) = some u := fun j u hu => by
   obtain ⟨b2, off2, e2, -, hc⟩ := hP j u hu
   simp only [Option.some.injEq, Addr.mk.injEq, and_true] at e2
   obtain ⟨rfl, rfl⟩ := e2
   rw [Addr.add_mid]
   exact hc
  obtain ⟨v', w', hr, h2, h3, -, h4⟩ := run_append_own_at (P := P) w B t t e i0 z s bytes hu hi hz0 hz1 hz2 hzs hs v n xs hO ⟨b, off, none⟩ m cp ys hl hcells h1 (by unfold maxLen; omega) (by have := Nat.mul_le_mul (show n + m ≤ 200000 by omega) hby; omega) hB
  exact ⟨v', w', hr, h2, (Below.refl _ w).grown h3 hB (fun j hj => (hO.lt j hj).1), h3, h4⟩
end
section
variable {ρ : Operand → Value} {o : Oper} {x y : Operand}
theorem neq_b (ho : o.op = .binOp .neq 4 x y 4) (b : Bool) (hx : ρ x = .bool b) (hy : ρ y = .bool b) (w : World) : (execOp ρ o).run Tryz.prog w = .ok (.value (.bool false)) w := by
 unfold execOp
 simp only [ho, hx, hy]
 go_simp
end
theorem neq_s {ρ : Operand → Value} {o : Oper} {x y : Operand} (ho : o.op = .binOp .neq 9 x y 9) (a b : ByteArray) {t : Bool} (ht : (a == b) = t) (hx : ρ x = .string a) (hy : ρ y = .string b) (w : World) : (execOp ρ o).run Tryz.prog w = .ok (.value (.bool (!t))) w := by
  have e : (a.toList == b.toList) = t := by rw [← beq_toListBytes]; exact ht
  subst e
  unfold execOp
  simp only [ho, hx, hy]
  go_simp
theorem toL_d (a : ByteArray) : a.toList = a.data.toList := Lib.toList_data a
theorem eqB (a b : ByteArray) : (a.toList == b.toList) = decide (a = b) := by
  rw [toL_d, toL_d]
  by_cases h : a = b
  · subst h; simp
  · rw [decide_eq_false h, beq_eq_false_iff_ne]
    intro e
    exact h (ByteArray.ext (Array.toList_inj.1 e))
theorem beqB (a b : ByteArray) : (a == b) = decide (a = b) := by rw [beq_toListBytes, eqB]
theorem add_iw {ρ : Operand → Value} {o : Oper} {x y : Operand} (ho : o.op = .binOp .add 3 x y 3) (a b : Int) (hx : ρ x = .int .i64 a) (hy : ρ y = .int .i64 b) (w : World) : (execOp ρ o).run Tryz.prog w = .ok (.value (.int .i64 (IntKind.i64.wrap (a + b)))) w := by
  unfold execOp
  simp only [ho, hx, hy]
  go_simp
theorem getD_set_eq {α : Type} (A : List α) (i : Nat) (q z : α) (h : i < A.length) : (A.set i q).getD i z = q := by simp [List.getD_eq_getElem?_getD, h]
theorem getD_set_ne {α : Type} (A : List α) (i j : Nat) (q z : α) (h : i ≠ j) : (A.set i q).getD j z = A.getD j z := by simp [List.getD_eq_getElem?_getD, List.getElem?_set, h]
theorem getD_app_lt {α : Type} (A B : List α) (i : Nat) (z : α) (h : i < A.length) : (A ++ B).getD i z = A.getD i z := by simp [List.getD_eq_getElem?_getD, List.getElem?_append_left h]
theorem getD_app_last {α : Type} (A : List α) (x z : α) : (A ++ [x]).getD A.length z = x := by simp [List.getD_eq_getElem?_getD]
section
variable {ρ : Operand → Value} {o : Oper} {x y : Operand}
theorem lss_w (ho : o.op = .binOp .lss 28 x y 28) (a b : Int) {t : Bool} (ht : decide (a < b) = t) (hx : ρ x = .int .u64 a) (hy : ρ y = .int .u64 b) (w : World) : (execOp ρ o).run Tryz.prog w = .ok (.value (.bool t)) w := by
  rw [← ht]
  unfold execOp
  go_simp
theorem gtr_w (ho : o.op = .binOp .gtr 28 x y 28) (a b : Int) {t : Bool} (ht : decide (b < a) = t) (hx : ρ x = .int .u64 a) (hy : ρ y = .int .u64 b) (w : World) : (execOp ρ o).run Tryz.prog w = .ok (.value (.bool t)) w := by
  rw [← ht]
  unfold execOp
  go_simp
theorem neq_w (ho : o.op = .binOp .neq 28 x y 28) (a b : Int) {t : Bool} (ht : decide (a ≠ b) = t) (hx : ρ x = .int .u64 a) (hy : ρ y = .int .u64 b) (w : World) : (execOp ρ o).run Tryz.prog w = .ok (.value (.bool t)) w := by
  have e : (a != b) = t := by rw [← ht]; by_cases h : a = b <;> simp [h]
  unfold execOp
  simp only [ho, hx, hy]
  go_simp
theorem eql_nn (ho : o.op = .binOp .eql 3 x y 3) (a b : Nat) {t : Bool} (ht : decide (a = b) = t) (hx : ρ x = .int .i64 a) (hy : ρ y = .int .i64 b) (w : World) : (execOp ρ o).run Tryz.prog w = .ok (.value (.bool t)) w :=
  eql_n ho a b (by rw [← ht]; exact decide_eq_decide.2 (by omega)) hx hy w
end
theorem infoSt : (Tryz.prog.info? 9).map (fun i => (i.zero, i.size, i.bytes)) = some (some (.string ByteArray.empty), 1, 16) := by kernel_rfl
theorem idx_str (b off n c k : Nat) (hk : k < n) (V : World) (ρ : Operand → Value) (o : Oper) {x y : Operand} (ho : o.op = .indexAddr 36 x y) (hx : ρ x = .slice (some ⟨b, off, none⟩) n c) (hy : ρ y = .int .i64 k) : (execOp ρ o).run Tryz.prog V = .ok (.value (.pointer (some ⟨b, off + k, none⟩))) V := by
  have hs : (sizeOf (Tryz.prog.elem 36)).run Tryz.prog V = .ok 1 V := by kernel_rfl
  have hlm : (k : Int) < (n : Int) := by omega
  unfold execOp
  simp only [ho, hx, hy]
  go_simp
/-- Strings in a row. -/
def strs (S : List ByteArray) : List Value := S.map Value.string
theorem strs_len (S : List ByteArray) : (strs S).length = S.length := List.length_map ..
theorem strs_one (S : List ByteArray) : ∀ u ∈ strs S, u.oneCell' = true := fun u hu => by
  obtain ⟨x, -, rfl⟩ := List.mem_map.1 hu; rfl
theorem strs_app (A B : List ByteArray) : strs (A ++ B) = strs A ++ strs B := List.map_append ..
theorem strs_at {S : List ByteArray} {k : Nat} (h : k < S.length) : (strs S)[k]? = some (.string (S.getD k (⟨#[]⟩ : ByteArray))) := by
  unfold strs
  rw [List.getElem?_map, List.getElem?_eq_getElem h, List.getD_eq_getElem?_getD, List.getElem?_eq_getElem h]
  rfl
theorem load_str {w : World} {g t : Nat} {S : List ByteArray} (h : Bx w g (strs S).toArray t) {k : Nat} (hk : k < S.length) : (Instr.loadAt 9 (.pointer (some ⟨g, 0 + k, none⟩))).run Tryz.prog w = .ok (.string (S.getD k (⟨#[]⟩ : ByteArray))) w := by
  rw [Nat.zero_add]
  exact Bx.load h (i := k) (by rw [List.getElem?_toArray]; exact strs_at hk) (by kernel_rfl)
theorem strs_get {w : World} {a : Option Addr} {S : List ByteArray} (h : Cs w a (strs S)) {k : Nat} (hk : k < S.length) : ∃ b off, a = some ⟨b, off, none⟩ ∧ b < w.heap.size ∧ w.cell? ⟨b, off + k, none⟩ = some (.string (S.getD k (⟨#[]⟩ : ByteArray))) := h _ _ (strs_at hk)
def RowS (w : World) (B : Nat) (v : Value) (L : List ByteArray) : Prop := w.ownsRow B 9 1 v L.length (strs L)
theorem RowS.below {w w' : World} {B : Nat} {v : Value} {L : List ByteArray} (h : RowS w B v L) (hb : Below w.heap.size w w') : RowS w' B v L := own_below h hb
theorem RowS.cs {w : World} {B : Nat} {v : Value} {L : List ByteArray} (h : RowS w B v L) : ∃ a c, v = .slice a L.length c ∧ Cs w a (strs L) ∧ L.length ≤ c := own_cs h
theorem RowS.ne {w : World} {B : Nat} {x : Value} {L : List ByteArray} (h : RowS w B x L) : x.ownBlock ≠ some w.heap.size := fun e => Nat.lt_irrefl _ (h.lt _ e).2
theorem app_str {w : World} {B : Nat} {v : Value} {A : List ByteArray} (h : RowS w B v A) (hB : B ≤ w.heap.size) (pa : Option Addr) (n cp : Nat) (M : List ByteArray) (hM : Cs w pa (strs M)) (hn : M.length = n) (hl : A.length ≤ 100000) (hm : n ≤ 100000) :
    ∃ v' w', (Builtin.append_ #[36, 36] 36 #[v, .slice pa n cp]).run Tryz.prog w = .ok v' w' ∧ RowS w' B v' (A ++ M) ∧ Below B w w' ∧ w.grownBy w' v.ownBlock ∧ (v'.ownBlock = v.ownBlock ∨ v'.ownBlock = some w.heap.size) := by
  subst hn
  obtain ⟨v', w', h1, h2, h3⟩ := app_at (P := Tryz.prog) (t := 36) (m := M.length) Tryz.underlying36 infoSt (by kernel_rfl) (by omega) (by omega) h pa cp (strs M) hM (by rw [strs_len, Nat.mul_one]) (strs_one M) hB hl hm
  refine ⟨v', w', h1, ?_, h3⟩
  unfold RowS
  rw [strs_app, List.length_append]
  exact h2
/-- Ints of the call's own. -/
def RowI (w : World) (B : Nat) (v : Value) (L : List Int) : Prop := w.ownsRow B 3 1 v L.length (icells L)
theorem RowI.below {w w' : World} {B : Nat} {v : Value} {L : List Int} (h : RowI w B v L) (hb : Below w.heap.size w w') : RowI w' B v L := own_below h hb
theorem RowI.cs {w : World} {B : Nat} {v : Value} {L : List Int} (h : RowI w B v L) : ∃ a c, v = .slice a L.length c ∧ Cs w a (icells L) ∧ L.length ≤ c := own_cs h
theorem RowI.ne {w : World} {B : Nat} {x : Value} {L : List Int} (h : RowI w B x L) : x.ownBlock ≠ some w.heap.size := fun e => Nat.lt_irrefl _ (h.lt _ e).2
theorem app_int {w : World} {B : Nat} {v : Value} {A : List Int} (h : RowI w B v A) (hB : B ≤ w.heap.size) (pa : Option Addr) (n cp : Nat) (M : List Int) (hM : Cs w pa (icells M)) (hn : M.length = n) (hl : A.length ≤ 100000) (hm : n ≤ 100000) :
    ∃ v' w', (Builtin.append_ #[22, 22] 22 #[v, .slice pa n cp]).run Tryz.prog w = .ok v' w' ∧ RowI w' B v' (A ++ M) ∧ Below B w w' ∧ w.grownBy w' v.ownBlock ∧ (v'.ownBlock = v.ownBlock ∨ v'.ownBlock = some w.heap.size) := by
  subst hn
  obtain ⟨v', w', h1, h2, h3⟩ := app_at (P := Tryz.prog) (t := 22) (m := M.length) Tryz.underlying22 infoI (by kernel_rfl) (by omega) (by omega) h pa cp (icells M) hM (by rw [icells_len, Nat.mul_one]) (icells_one M) hB hl hm
  refine ⟨v', w', h1, ?_, h3⟩
  unfold RowI
  rw [icells_app, List.length_append]
  exact h2
theorem own_slice {w : World} {B e s n : Nat} {v : Value} {xs : List Value} (h : w.ownsRow B e s v n xs) : (v = .slice none 0 0 ∧ n = 0) ∨ ∃ g c, v = .slice (some ⟨g, 0, none⟩) n c ∧ B ≤ g ∧ g < w.heap.size ∧ n ≤ c := by
  rcases h.2 with ⟨h1, h2⟩ | ⟨g, c, cur, h1, h2, h3, h4, -⟩
  · exact .inl ⟨h1, h2⟩
  · exact .inr ⟨g, c, h1, h2, (Array.getElem?_eq_some_iff.1 h3).1, h4⟩
/-- A configuration in memory: twelve fields. -/
abbrev cfA (c : List Int) : Array Value := #[.int .i64 (c.getD 0 0), .int .i64 (c.getD 1 0), .int .i64 (c.getD 2 0), .int .i64 (c.getD 3 0), .int .i64 (c.getD 4 0), .int .i64 (c.getD 5 0), .bool (decide (c.getD 6 0 = 1)), .int .i64 (c.getD 7 0), .int .i64 (c.getD 8 0), .int .u64 (c.getD 9 0), .int .i64 (c.getD 10 0), .int .i64 (c.getD 11 0)]
def CfOk (c : List Int) : Prop := c.length = 12 ∧ (c.getD 6 0 = 0 ∨ c.getD 6 0 = 1) ∧ 0 ≤ c.getD 9 0 ∧ c.getD 9 0 < 18446744073709551616 ∧ ∀ i, i < 12 → i ≠ 9 → -9223372036854775808 ≤ c.getD i 0 ∧ c.getD i 0 < 9223372036854775808
theorem cf_all : ∀ {c : List Int}, c.length = 12 → ∃ x0 x1 x2 x3 x4 x5 x6 x7 x8 x9 x10 x11, c = [x0, x1, x2, x3, x4, x5, x6, x7, x8, x9, x10, x11] := fun {c} h => by
  match c, h with
  | [x0, x1, x2, x3, x4, x5, x6, x7, x8, x9, x10, x11], _ => exact ⟨x0, x1, x2, x3, x4, x5, x6, x7, x8, x9, x10, x11, rfl⟩
theorem infoC : (Tryz.prog.info? 30).map (fun i => (i.zero, i.size, i.bytes)) = some (some (.agg (cfA zeroL)), 12, 96) := by kernel_rfl
theorem load_C {w : World} {g k : Nat} {c : List Int} (h : Bx w g (cfA c) k) : (Instr.loadAt 30 (.pointer (some ⟨g, 0, none⟩))).run Tryz.prog w = .ok (.agg (cfA c)) w := run_loadAt_mid w g 0 30 (cfA c).toList _ (bx_range (cs := (cfA c).toList) h) Tryz.underlying30 rfl (by kernel_rfl)
theorem build_i12 (x0 x1 x2 x3 x4 x5 x6 x7 x8 x9 x10 x11 : Int) (V : World) : (Instr.buildSlice 22 12 #[(0, .int .i64 x0), (1, .int .i64 x1), (2, .int .i64 x2), (3, .int .i64 x3), (4, .int .i64 x4), (5, .int .i64 x5), (6, .int .i64 x6), (7, .int .i64 x7), (8, .int .i64 x8), (9, .int .i64 x9), (10, .int .i64 x10), (11, .int .i64 x11)]).run Tryz.prog V = .ok (.slice (some ⟨V.heap.size, 0, none⟩) 12 12) (V.alloc (.cells (icells [x0, x1, x2, x3, x4, x5, x6, x7, x8, x9, x10, x11]).toArray 3)) := by
  obtain ⟨i0, hi, hz0, hz1, hz2⟩ := info_parts infoI
  refine run_buildSlice V 22 3 12 _ (icells [x0, x1, x2, x3, x4, x5, x6, x7, x8, x9, x10, x11]).toArray i0 _ Tryz.underlying22 hi hz0 (by rw [hz1]; omega) (by rw [hz1]; omega) ?_
  rw [hz1]
  kernel_rfl
/-- The keys as strings. -/
def keysB : List ByteArray := [⟨#[109, 97, 120, 45, 116, 120, 115]⟩, ⟨#[109, 97, 120, 45, 98, 121, 116, 101, 115]⟩, ⟨#[109, 97, 120, 45, 116, 120, 45, 98, 121, 116, 101, 115]⟩, ⟨#[99, 97, 99, 104, 101, 45, 115, 105, 122, 101]⟩, ⟨#[116, 116, 108, 45, 98, 108, 111, 99, 107, 115]⟩, ⟨#[116, 116, 108, 45, 116, 105, 109, 101]⟩, ⟨#[107, 101, 101, 112, 45, 105, 110, 118, 97, 108, 105, 100]⟩, ⟨#[98, 108, 111, 99, 107, 45, 98, 121, 116, 101, 115]⟩, ⟨#[98, 108, 111, 99, 107, 45, 103, 97, 115]⟩, ⟨#[112, 114, 105, 99, 101]⟩, ⟨#[115, 101, 108, 102]⟩, ⟨#[110, 111, 100, 101, 115]⟩]
theorem keys_nums : keysB.map nums = keysL := by decide +kernel
theorem build_k12 (V : World) : (Instr.buildSlice 36 12 #[(0, .string ⟨#[109, 97, 120, 45, 116, 120, 115]⟩), (1, .string ⟨#[109, 97, 120, 45, 98, 121, 116, 101, 115]⟩), (2, .string ⟨#[109, 97, 120, 45, 116, 120, 45, 98, 121, 116, 101, 115]⟩), (3, .string ⟨#[99, 97, 99, 104, 101, 45, 115, 105, 122, 101]⟩), (4, .string ⟨#[116, 116, 108, 45, 98, 108, 111, 99, 107, 115]⟩), (5, .string ⟨#[116, 116, 108, 45, 116, 105, 109, 101]⟩), (6, .string ⟨#[107, 101, 101, 112, 45, 105, 110, 118, 97, 108, 105, 100]⟩), (7, .string ⟨#[98, 108, 111, 99, 107, 45, 98, 121, 116, 101, 115]⟩), (8, .string ⟨#[98, 108, 111, 99, 107, 45, 103, 97, 115]⟩), (9, .string ⟨#[112, 114, 105, 99, 101]⟩), (10, .string ⟨#[115, 101, 108, 102]⟩), (11, .string ⟨#[110, 111, 100, 101, 115]⟩)]).run Tryz.prog V = .ok (.slice (some ⟨V.heap.size, 0, none⟩) 12 12) (V.alloc (.cells (strs keysB).toArray 9)) := by
  obtain ⟨i0, hi, hz0, hz1, hz2⟩ := info_parts infoSt
  refine run_buildSlice V 36 9 12 _ (strs keysB).toArray i0 _ Tryz.underlying36 hi hz0 (by rw [hz1]; omega) (by rw [hz1]; omega) ?_
  rw [hz1]
  kernel_rfl
end Go.Proofs.YtplfineaomneiaaGreatDoor
