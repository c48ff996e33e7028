/-
  Ints in rows, stores into a block, the numbers that the statements draw from, how long an input is. (Out of stage 7's texts.) Names and memos as lists of numbers; comparisons of bytes, a byte of a string. The reference's Message: contract. The reference's follow and Rune: contracts.
-/
import Derived.Test.YtglglhcnofbagaaJ3
import Derived.Laws.Tables
import Derived.Lib.SmallJoins
namespace Go.Proofs.Ytglglhcnofbagaa
open Go.RowKit
set_option linter.unusedSimpArgs false
set_option linter.unusedVariables false

theorem load_cell {w : World} {t : TypeId} {a : Addr} {v : Value} (h : w.cell? a = some v) (hag : (isAgg t).run Try.prog w = .ok false w) : (Instr.loadAt t (.pointer (some a))).run Try.prog w = .ok v w := by
  simp [Instr.loadAt, Instr.sureAddr, loadVar, hag, run_load, h, Result.andThen]
/-- The list lies in a block. -/
def Bx (w : World) (g : Nat) (cs : Array Value) (t : Nat) : Prop := w.heap[g]? = some (.cells cs t (0, 0))
theorem Bx.lt {w : World} {g t : Nat} {cs : Array Value} (h : Bx w g cs t) : g < w.heap.size := (Array.getElem?_eq_some_iff.1 h).1
theorem Bx.below {w w' : World} {g t B : Nat} {cs : Array Value} (h : Bx w g cs t) (hg : g < B) (hb : Below B w w') : Bx w' g cs t := (hb.block g hg).trans h
theorem Bx.load {w : World} {g t i : Nat} {cs : Array Value} {v : Value} {ty : TypeId} (h : Bx w g cs t) (hv : cs[i]? = some v) (hag : (isAgg ty).run Try.prog w = .ok false w) : (Instr.loadAt ty (.pointer (some ⟨g, i, none⟩))).run Try.prog w = .ok v w :=
  load_cell ((cell_of_row w g i _ t (0, 0) h).trans hv) hag
theorem belowRow {w w0 : World} {g B : Nat} (h : Below B w0 w) (hn : B ≤ g) (cs : Array Value) : Below B w0 (w.setRow g cs) :=
  ⟨h.os, h.tape, h.output, by rw [size_setRow]; exact h.size, fun k hk => (setRow_other w g k cs (by omega)).trans (h.block k hk)⟩
/-- The world has new blocks, and block g is written. -/
def But (g : Nat) (w w' : World) : Prop := Below g w w' ∧ ∀ k, k < w.heap.size → k ≠ g → w'.heap[k]? = w.heap[k]?
theorem But.refl (g : Nat) (w : World) : But g w w := ⟨Below.refl _ _, fun _ _ _ => rfl⟩
theorem But.trans {g : Nat} {a b c : World} (h : But g a b) (k : But g b c) : But g a c :=
  ⟨h.1.trans k.1, fun i hi hn => (k.2 i (by have := h.1.size; omega) hn).trans (h.2 i hi hn)⟩
theorem But.setRow {g : Nat} (w : World) (cs : Array Value) : But g w (w.setRow g cs) :=
  ⟨belowRow (Below.refl _ _) (Nat.le_refl _) cs, fun k _ hn => setRow_other w g k cs hn⟩
theorem But.below {g B : Nat} {w w' : World} (h : But g w w') (hB : B ≤ g) : Below B w w' := h.1.mono hB
theorem Bx.but {w w' : World} {g k t : Nat} {cs : Array Value} (h : Bx w k cs t) (hb : But g w w') (hn : k ≠ g) : Bx w' k cs t := (hb.2 k h.lt hn).trans h
theorem Bx.set {w : World} {g t : Nat} {cs cs' : Array Value} (h : Bx w g cs t) : Bx (w.setRow g cs') g cs' t := setRow_heap _ _ _ _ _ _ h
/-- A row whose block is not g. -/
theorem Cs.but {w w' : World} {g : Nat} {a : Option Addr} {cs : List Value} (h : Cs w a cs) (hb : But g w w') (hn : ∀ x, a = some x → x.block ≠ g) : Cs w' a cs := fun j v hj => by
  obtain ⟨b, off, e, hlt, hc⟩ := h j v hj
  refine ⟨b, off, e, Nat.lt_of_lt_of_le hlt hb.1.size, ?_⟩
  rw [← hc]
  unfold World.cell?
  rw [hb.2 b hlt (hn _ e)]
theorem own_but {w w' : World} {g B e size n : Nat} {v : Value} {xs : List Value} (h : w.ownsRow B e size v n xs) (hb : But g w w') (hn : g < B) : w'.ownsRow B e size v n xs := by
  refine ⟨h.1, ?_⟩
  rcases h.2 with h0 | ⟨k, cap, cur, ev, hB, hg, r⟩
  · exact .inl h0
  · exact .inr ⟨k, cap, cur, ev, hB, (hb.2 k (Array.getElem?_eq_some_iff.1 hg).1 (by omega)).trans hg, r⟩
theorem run_store_cell {w : World} {g t i : Nat} {cs : Array Value} {v : Value} {ty : TypeId} (h : Bx w g cs t) (hi : i < cs.size) (h1 : v.oneCell' = true) (hs : (Try.prog.info? ty).map (·.size) = some 1) :
    (Instr.storeAt ty (.pointer (some ⟨g, i, none⟩)) v).run Try.prog w = .ok () (w.setCell ⟨g, i, none⟩ v) := by
  have hc : v.cells = #[v] := by cases v <;> first | rfl | cases h1
  have hcell : w.cell? ⟨g, i, none⟩ = some cs[i] := by rw [cell_of_row w g i _ t (0, 0) h]; simp [hi]
  have hfz : w.frozen? ⟨g, i, none⟩ = false := frozen_of_row w g i _ t h
  have ha : (⟨g, i, none⟩ : Addr).add 0 = ⟨g, i, none⟩ := by simp [Addr.add]
  cases hq : Try.prog.info? ty with
  | none => simp [hq] at hs
  | some j =>
    have hs : j.size = 1 := by simpa [hq] using hs
    simp [Instr.storeAt, Instr.sureAddr, storeVar, sizeOf, typeInfo, hq, hc, hs, storeCells, run_store _ _ _ _ _ h1, ha, hcell, hfz]
theorem But.setCell {g : Nat} (w : World) (o : Nat) (v : Value) : But g w (w.setCell ⟨g, o, none⟩ v) :=
  ⟨(Below.refl g w).setCell (Nat.le_refl _) v, fun k _ hn => heap_setCell_other w _ k v hn⟩
theorem Bx.setC {w : World} {g t i : Nat} {cs : Array Value} (h : Bx w g cs t) (v : Value) : Bx (w.setCell ⟨g, i, none⟩ v) g (cs.setIfInBounds i v) t := Joins.block_setCell h v
theorem run_store_all {w : World} {g t : Nat} {cs cs' : Array Value} {ty : TypeId} (h : Bx w g cs t) (hz : cs.size = cs'.size) (h1 : cs'.all (·.oneCell') = true) (hs : (Try.prog.info? ty).map (·.size) = some cs'.size) :
    (Instr.storeAt ty (.pointer (some ⟨g, 0, none⟩)) (.agg cs')).run Try.prog w = .ok () (w.setRow g cs') := by
  simp only [Instr.storeAt, Instr.sureAddr, Sem.run_bind, Sem.run_pure, Result.andThen_ok]
  exact run_storeVar_row w g t ty cs cs' h hs hz h1
section
variable {P : Program} {ops : Array Oper} {rest : List Oper} {o : Oper} {a : Act} {w : World} {Q : Exit → Act → World → Prop} {i : Nat} {K : Act → World → Prop}
theorem gw_store (hw : Region.wanted o (yielded ops a.tmps) = true) (hd : o.dst = none) (ty : TypeId) (x y : Operand) (ho : o.op = .store ty x y) (vx vy : Value) (hx : a.eval x = vx) (hy : a.eval y = vy) (w2 : World)
    (hr : (Instr.storeAt ty vx vy).run P w = .ok () w2) (k : wpList P ops Q rest a w2) : wpList P ops Q (o :: rest) a w := by
  apply wpList_step
  intro K hK
  rw [if_pos hw]
  unfold Oper.wp execOp
  simp only [ho, hx, hy, Sem.run_bind, hr, Result.andThen_ok]
  show K (a.put o.dst undef) _
  rw [hd]
  exact hK _ _ k
theorem gzs {ty : TypeId} {x y : Operand} (ho : o.op = .store ty x y) {vx vy : Value} {w2 : World} (hr : (Instr.storeAt ty vx vy).run P w = .ok () w2) (k : wpList P ops Q rest a w2) (hw : Region.wanted o (yielded ops a.tmps) = true := by kernel_rfl) (hd : o.dst = none := by kernel_rfl) (hx : a.eval x = vx := by kernel_rfl) (hy : a.eval y = vy := by kernel_rfl) : wpList P ops Q (o :: rest) a w := gw_store hw hd ty x y ho vx vy hx hy w2 hr k
theorem st_storeA (hi : ops[i]? = some o) (hw : Region.wanted o (yielded ops a.tmps) = true) (hd : o.dst = none) (ty : TypeId) (x y : Operand) (ho : o.op = .store ty x y) (vx vy : Value) (hx : a.eval x = vx) (hy : a.eval y = vy) (w2 : World)
    (hr : (Instr.storeAt ty vx vy).run P w = .ok () w2) (h : K a w2) : wpOp P ops Q i K a w := by
  refine st_of hi hw ?_
  unfold Oper.wp execOp
  simp only [ho, hx, hy, Sem.run_bind, hr, Result.andThen_ok]
  show K (a.put o.dst undef) _
  rw [hd]
  exact h
end
/-- A number from 0 to below n that depends on any number. -/
def pl (x n : Int) : Int := if x.tmod n < 0 then x.tmod n + n else x.tmod n
theorem tmod_range (x n : Int) (hn : 0 < n) : -n < x.tmod n ∧ x.tmod n < n := by
  rcases Int.le_total 0 x with h | h
  · have h1 := Int.tmod_nonneg n h
    have h2 := Int.tmod_lt_of_pos x hn
    omega
  · have h1 := Int.tmod_nonneg n (show 0 ≤ -x by omega)
    have h2 := Int.tmod_lt_of_pos (-x) hn
    rw [Int.neg_tmod] at h1 h2
    omega
theorem pl_range (x n : Int) (hn : 0 < n) : 0 ≤ pl x n ∧ pl x n < n := by
  have := tmod_range x n hn
  unfold pl
  split <;> omega
theorem rem_i64 {ρ : Operand → Value} {o : Oper} {x y : Operand} (ho : o.op = .binOp .rem 3 x y 3) (a b : Int) (hb : b ≠ 0) (hx : ρ x = .int .i64 a) (hy : ρ y = .int .i64 b) (w : World) :
    (execOp ρ o).run Try.prog w = .ok (.value (.int .i64 (a.tmod b))) w := by
  unfold execOp
  simp only [ho, hx, hy]
  simp [hb, go_sem]
set_option maxHeartbeats 1000000 in
theorem mk_place (x n : Int) (w : World) (hn : 0 < n) (hn2 : n ≤ 1000000) :
    Calls Try.prog 4 #[.int .i64 x, .int .i64 n] w fun e w' => e = .returned (.int .i64 (pl x n)) ∧ w = w' := by
  have hr := tmod_range x n hn
  have hnz : ¬ n = 0 := by omega
  unfold pl
  obtain ⟨r, hr0⟩ : ∃ r, x.tmod n = r := ⟨_, rfl⟩
  have hw : IntKind.i64.wrap r = r := by rw [IntKind.wrap_i64]; omega
  rw [hr0] at hr ⊢
  have HR := Lib.hid hr0
  clear hr0
  obtain ⟨Q, hQ⟩ : ∃ Q, Q = if r < 0 then r + n else r := ⟨_, rfl⟩
  rw [← hQ]
  have HQ := Lib.hid hQ
  clear hQ
  go_enter Try.func4, Try.ntmps4
  go_upto_region 1 with fail
  apply wp_region_lit
  refine gw_val (by kernel_rfl) (some 5) rfl (.int .i64 x) (by kernel_rfl) ?_
  simp only [pu1, pu2, pu3, pu4]
  refine gw_val (by kernel_rfl) (some 6) rfl (.int .i64 n) (by kernel_rfl) ?_
  simp only [pu1, pu2, pu3, pu4]
  refine gw_val (by kernel_rfl) (some 7) rfl (.int .i64 (x.tmod n)) (rem_i64 rfl x n hnz (by kernel_rfl) (by kernel_rfl) w) ?_
  rw [HR.out]
  simp only [pu1, pu2, pu3, pu4]
  refine gw_val (by kernel_rfl) (some 0) rfl (.int .i64 r) (by kernel_rfl) ?_
  simp only [pu1, pu2, pu3, pu4]
  apply wpList_nil
  by_cases h0 : r < 0
  · have hd : decide (r < 0) = true := decide_eq_true h0
    have HQ2 : Hid (Q = r + n) := Lib.hid (by rw [HQ.out, if_pos h0])
    have hw3 : IntKind.i64.wrap (r + n) = r + n := by rw [IntKind.wrap_i64]; omega
    clear HQ HR
    go_wp2_with fail
    go_ret
    exact ⟨by rw [HQ2.out]; rfl, rfl⟩
  · have hd : decide (r < 0) = false := decide_eq_false h0
    have HQ2 : Hid (Q = r) := Lib.hid (by rw [HQ.out, if_neg h0])
    clear HQ HR
    go_wp2_with fail
    go_ret
    exact ⟨by rw [HQ2.out]; rfl, rfl⟩
theorem add_one {ρ : Operand → Value} {o : Oper} {x : Operand} (ho : o.op = .binOp .add 3 x (.const (.int .i64 1)) 3) (m : Nat) (hm : m ≤ 1000000) (hx : ρ x = .int .i64 m) (w : World) (hρ : ρ (.const (.int .i64 1)) = .int .i64 1 := by rfl) : (execOp ρ o).run Try.prog w = .ok (.value (.int .i64 (m + 1 : Nat))) w := by
  unfold execOp
  simp only [ho, hx, hρ]
  simp [go_sem]
  rw [IntKind.wrap_i64]
  omega
theorem add_nat {ρ : Operand → Value} {o : Oper} {x y : Operand} (ho : o.op = .binOp .add 3 x y 3) (a b : Nat) (h : a + b ≤ 9223372036854775807) (hx : ρ x = .int .i64 a) (hy : ρ y = .int .i64 b) (w : World) : (execOp ρ o).run Try.prog w = .ok (.value (.int .i64 (a + b : Nat))) w := by
  unfold execOp
  simp only [ho, hx, hy]
  simp [go_sem]
  rw [IntKind.wrap_i64]
  omega
end Go.Proofs.Ytglglhcnofbagaa
namespace Go.Proofs.Ytglglhcnofbagaa
open Go.RowKit
set_option linter.unusedSimpArgs false
set_option linter.unusedVariables false

theorem run_four {c0 c1 : Int} {f1 f2 f3 : Bool} (h : runN c0 c1 f1 f2 f3 = 4) : ((((240 ≤ c0 ∧ c0 < 245) ∧ f1 = true) ∧ f2 = true) ∧ f3 = true) ∧ ¬ ((c0 = 240 ∧ c1 < 144) ∨ (c0 = 244 ∧ 144 ≤ c1)) := by
 unfold runN at h
 split at h
 ·omega
 split at h
 ·omega
 split at h
 ·split at h <;> omega
 split at h
 ·rename_i h4
  split at h
  ·omega
  ·rename_i h5
   exact ⟨h4, h5⟩
 ·omega
theorem run_fffd {L : List Int} {i : Nat} (hb : ∀ j, 0 ≤ L.getD j 0 ∧ L.getD j 0 < 256) (h : runK L i ≠ 0) (e : runV L i = 65533) : runK L i = 3 := by
 have h4 := run_le L i
 have g0 := hb i
 have g1 := hb (i + 1)
 rcases (show runK L i = 1 ∨ runK L i = 2 ∨ runK L i = 3 ∨ runK L i = 4 by omega) with k | k | k | k
 ·unfold runV at e
  rw [k] at e
  simp only [valN, if_true] at e
  omega
 ·unfold runV at e
  rw [k] at e
  have e2 : (L.getD i 0 - 192) * 64 + (L.getD (i + 1) 0 - 128) = 65533 := e
  omega
 ·exact k
 ·have q := run_four k
  have h1 := fol_rng q.1.1.1.2
  have h2 := fol_rng q.1.1.2
  have h3 := fol_rng q.1.2
  unfold runV at e
  rw [k] at e
  have e2 : (L.getD i 0 - 240) * 262144 + (L.getD (i + 1) 0 - 128) * 4096 + (L.getD (i + 2) 0 - 128) * 64 + (L.getD (i + 3) 0 - 128) = 65533 := e
  omega
/-- How many runes from a place on; none if it is not UTF-8. -/
def runs (L : List Int) (i : Nat) : Option Nat :=
 if h : i < L.length then (if runK L i = 0 then none else (runs L (i + runK L i)).map (· + 1)) else some 0
termination_by L.length - i
decreasing_by omega
def nmB (c : Int) : Bool := (decide (97 ≤ c) && decide (c ≤ 122)) || (decide (48 ≤ c) && decide (c ≤ 57)) || decide (c = 45)
def isName (L : List Int) : Bool := L.all nmB && (decide (1 ≤ L.length) && decide (L.length ≤ 20))
def isMemo (L : List Int) : Bool := match runs L 0 with
 | none => false
 | some n => decide (n ≤ 64)
theorem all_no {L : List Int} {i : Nat} (h : i < L.length) (hb : nmB (L.getD i 0) = false) : isName L = false := by
 unfold isName
 have : L.all nmB = false := by
  rw [List.all_eq_false]
  exact ⟨L.getD i 0, by rw [List.getD_eq_getElem?_getD, List.getElem?_eq_getElem h]; exact List.getElem_mem h, by rw [hb]; simp⟩
 rw [this]
 rfl
theorem all_yes {L : List Int} (h : ∀ j, j < L.length → nmB (L.getD j 0) = true) : L.all nmB = true := by
 rw [List.all_eq_true]
 intro x hx
 obtain ⟨j, hj, rfl⟩ := List.mem_iff_getElem.1 hx
 have := h j hj
 rwa [List.getD_eq_getElem?_getD, List.getElem?_eq_getElem hj] at this
section
variable {ρ : Operand → Value} {o : Oper} {x y : Operand}
theorem ex_index (s : ByteArray) (i : Nat) (h : i < s.size) (ho : o.op = .index 9 x y) (hx : ρ x = .string s) (hy : ρ y = .int .i64 i) (w : World) : (execOp ρ o).run Try.prog w = .ok (.value (.int .u8 ((nums s).getD i 0))) w := by
 unfold execOp
 simp only [ho, hx, hy, Sem.run_bind, str_index s i h w]
 rfl
theorem geq_u (ho : o.op = .binOp .geq 5 x y 5) (a b : Int) {t : Bool} (ht : decide (b ≤ a) = t) (hx : ρ x = .int .u8 a) (hy : ρ y = .int .u8 b) (w : World) : (execOp ρ o).run Try.prog w = .ok (.value (.bool t)) w := by
 rw [← ht]
 unfold execOp
 simp only [ho, hx, hy]
 go_simp
theorem leq_u (ho : o.op = .binOp .leq 5 x y 5) (a b : Int) {t : Bool} (ht : decide (a ≤ b) = t) (hx : ρ x = .int .u8 a) (hy : ρ y = .int .u8 b) (w : World) : (execOp ρ o).run Try.prog w = .ok (.value (.bool t)) w := by
 rw [← ht]
 unfold execOp
 simp only [ho, hx, hy]
 go_simp
theorem lss_u (ho : o.op = .binOp .lss 5 x y 5) (a b : Int) {t : Bool} (ht : decide (a < b) = t) (hx : ρ x = .int .u8 a) (hy : ρ y = .int .u8 b) (w : World) : (execOp ρ o).run Try.prog w = .ok (.value (.bool t)) w := by
 rw [← ht]
 unfold execOp
 simp only [ho, hx, hy]
 go_simp
theorem eql_u (ho : o.op = .binOp .eql 5 x y 5) (a b : Int) {t : Bool} (ht : decide (a = b) = t) (hx : ρ x = .int .u8 a) (hy : ρ y = .int .u8 b) (w : World) : (execOp ρ o).run Try.prog w = .ok (.value (.bool t)) w := by
 have e : (a == b) = t := ht
 unfold execOp
 simp only [ho, hx, hy]
 go_simp
theorem geq_n (ho : o.op = .binOp .geq 3 x y 3) (a b : Int) {t : Bool} (ht : decide (b ≤ a) = t) (hx : ρ x = .int .i64 a) (hy : ρ y = .int .i64 b) (w : World) : (execOp ρ o).run Try.prog w = .ok (.value (.bool t)) w := by
 rw [← ht]
 unfold execOp
 simp only [ho, hx, hy]
 go_simp
theorem leq_n (ho : o.op = .binOp .leq 3 x y 3) (a b : Int) {t : Bool} (ht : decide (a ≤ b) = t) (hx : ρ x = .int .i64 a) (hy : ρ y = .int .i64 b) (w : World) : (execOp ρ o).run Try.prog w = .ok (.value (.bool t)) w := by
 rw [← ht]
 unfold execOp
 simp only [ho, hx, hy]
 go_simp
theorem lss_n (ho : o.op = .binOp .lss 3 x y 3) (a b : Int) {t : Bool} (ht : decide (a < b) = t) (hx : ρ x = .int .i64 a) (hy : ρ y = .int .i64 b) (w : World) : (execOp ρ o).run Try.prog w = .ok (.value (.bool t)) w := by
 rw [← ht]
 unfold execOp
 simp only [ho, hx, hy]
 go_simp
end
/-- A byte of a string at the operation. -/
def StrAt (s : ByteArray) (i : Nat) (c : Int) : Prop := ∀ (ρ : Operand → Value) (o : Oper) (x y : Operand), o.op = .index 9 x y → ρ x = .string s → ρ y = .int .i64 i → ∀ w, (execOp ρ o).run Try.prog w = .ok (.value (.int .u8 c)) w
theorem str_at (s : ByteArray) (i : Nat) (h : i < s.size) : StrAt s i ((nums s).getD i 0) := fun ρ o x y ho hx hy w => ex_index s i h ho hx hy w
end Go.Proofs.Ytglglhcnofbagaa
namespace Go.Proofs.Ytglglhcnofbagaa
attribute [local irreducible] wpList wpQuiet
open Go.RowKit
set_option linter.unusedSimpArgs false
set_option linter.unusedVariables false

/-- The bytes of a message. -/
def msg (P : List Fld) : List Int := P.flatMap encF
theorem msg_app (P Q : List Fld) : msg (P ++ Q) = msg P ++ msg Q := by simp [msg]
theorem msg_take (P : List Fld) (j : Nat) : (msg (P.take j)).length ≤ (msg P).length := by
 conv => rhs; rw [← List.take_append_drop j P, msg_app, List.length_append]
 omega
theorem encI_len_ge (num kind val : Int) (X : List Int) : X.length ≤ (encI num kind val X).length := by
 unfold encI
 rw [List.length_append, List.length_append]
 omega
abbrev fdA (x : Fld) (b : Option Addr) (d : Nat) : Array Value := #[.int .i64 x.num, .int .i64 x.kind, .int .u64 x.val, .slice b x.bytes.length d]
theorem fd_range {w : World} {g o : Nat} {x : Fld} {b : Option Addr} {d : Nat} (h : Box w g o x.num x.kind x.val b x.bytes.length d) : w.rangeAt g o (fdA x b d).toList := fun j v hj => by
 obtain ⟨h0, h1, h2, h3⟩ := h
 have hj4 : j < 4 := by
  have := (List.getElem?_eq_some_iff.1 hj).1
  simpa using this
 rcases (show j = 0 ∨ j = 1 ∨ j = 2 ∨ j = 3 by omega) with rfl | rfl | rfl | rfl
 ·simp at hj; rw [← hj]; exact h0
 ·simp at hj; rw [← hj]; exact h1
 ·simp at hj; rw [← hj]; exact h2
 ·simp at hj; rw [← hj]; exact h3
theorem load_fd {w : World} {g o : Nat} {x : Fld} {b : Option Addr} {d : Nat} (h : w.rangeAt g o (fdA x b d).toList) : (Instr.loadAt 66 (.pointer (some ⟨g, o, none⟩))).run Try.prog w = .ok (.agg (fdA x b d)) w :=
 run_loadAt_mid w g o 66 _ _ h Try.underlying66 rfl (by kernel_rfl)
theorem idx_fd (b off n c k : Nat) (hk : k < n) (V : World) (ρ : Operand → Value) (o : Oper) {x y : Operand} (ho : o.op = .indexAddr 61 x y) (hx : ρ x = .slice (some ⟨b, off, none⟩) n c) (hy : ρ y = .int .i64 k) : (execOp ρ o).run Try.prog V = .ok (.value (.pointer (some ⟨b, off + k * 4, none⟩))) V := by
 have hs : (sizeOf (Try.prog.elem 61)).run Try.prog V = .ok 4 V := by kernel_rfl
 have hlm : (k : Int) < (n : Int) := by omega
 unfold execOp
 simp only [ho, hx, hy]
 go_simp
theorem fdA_one (x : Fld) (b : Option Addr) (d : Nat) : (fdA x b d).all (·.oneCell') = true := by simp [Value.oneCell']
theorem new_fd (V : World) (x : Fld) (b : Option Addr) (d : Nat) : ∃ V2, (Instr.storeAt 66 (.pointer (some ⟨V.heap.size, 0, none⟩)) (.agg (fdA x b d))).run Try.prog (V.alloc (.cells (fdA zeroF none 0) 66)) = .ok () V2 ∧ Below V.heap.size V V2 ∧ Bx V2 V.heap.size (fdA x b d) 66 :=
 have hb : Bx (V.alloc (.cells (fdA zeroF none 0) 66)) V.heap.size (fdA zeroF none 0) 66 := heap_alloc_last V _
 ⟨_, run_store_all hb rfl (fdA_one x b d) (by kernel_rfl), belowRow ((Below.refl _ V).alloc (Nat.le_refl _) _) (Nat.le_refl _) _, hb.set⟩
theorem load_fdb {w : World} {g t : Nat} {x : Fld} {b : Option Addr} {d : Nat} (h : Bx w g (fdA x b d) t) : (Instr.loadAt 66 (.pointer (some ⟨g, 0, none⟩))).run Try.prog w = .ok (.agg (fdA x b d)) w :=
 load_fd fun j v hv => by
  rw [cell_of_row w g _ _ _ (0, 0) h]
  simpa using hv
set_option maxRecDepth 100000 in
set_option maxHeartbeats 8000000 in
theorem ref_message (a : Option Addr) (c : Nat) (P : List (Fld × Value)) (w : World) (hF : Fs w a P) (hv : ∀ p, p ∈ P → Vfi p.1.num p.1.kind p.1.val p.1.bytes.length ∧ W64 p.1.val) (hl : (msg (P.map Prod.fst)).length ≤ 900000) (hn0 : P.length ≤ 100000) :
  Calls Try.prog 26 #[.slice a P.length c] w fun e w' => ∃ v, e = .returned v ∧ Own w' w.heap.size v (msg (P.map Prod.fst)) ∧ Below w.heap.size w w' := by
 have HF := Lib.hid hF
 have HV := Lib.hid hv
 have HL := Lib.hid hl
 obtain ⟨M, hM⟩ : ∃ M, P.map Prod.fst = M := ⟨_, rfl⟩
 have HM := Lib.hid hM
 have HPM : Hid (M.length = P.length) := Lib.hid (by rw [← hM, List.length_map])
 rw [hM] at HL ⊢
 obtain ⟨n, hn⟩ : ∃ n, P.length = n := ⟨_, rfl⟩
 have HN := Lib.hid hn
 rw [hn] at hn0 HPM ⊢
 clear hF hv hl hM hn
 go_enter Try.func26, Try.ntmps26
 go_upto_region 1 with fail
 refine wl <| gz1 (.slice none 0 0) <| wn ?_
 simp only [pu]
 go_upto_region 2 with fail
 refine wl <| gz3 (.slice a n c) (.int .i64 n) (.int .i64 0) <| wn ?_
 simp only [pu]
 go_wp2_with fail
 go_loopg [3, 8] n (fun gg s3 s8 wx => ∃ (j : Nat) (b : Option Addr) (k d : Nat), s3 = .slice b k d ∧ s8 = .int .i64 j ∧ j ≤ n ∧ Hid (Own wx w.heap.size (.slice b k d) (msg (M.take j))) ∧ Hid (Below w.heap.size w wx) ∧ n - j = gg)
 case atStart => exact ⟨0, none, 0, 0, rfl, rfl, by omega, Lib.hid (Own.nil _ _), Lib.hid (Below.refl _ _), by omega⟩
 case round =>
  obtain ⟨j, b, k, d, rfl, rfl, hj, HO, HB, hg⟩ := hrel
  by_cases hlt : j < n
  ·have HD : Hid (decide ((j : Int) < (n : Int)) = true) := Lib.hid dT
   have HG : Hid (n - (j + 1) = gk - 1 ∧ 0 < gk ∧ j + 1 ≤ n) := Lib.hid ⟨by omega, by omega, by omega⟩
   have hjP : j < P.length := by rw [HN.out]; exact hlt
   obtain ⟨b0, off, ba, bc, rfl, hp2, hsl, hbox⟩ := HF.out j P[j] (List.getElem?_eq_getElem hjP)
   have hva := HV.out P[j] (List.getElem_mem hjP)
   have htk : msg (M.take (j + 1)) = msg (M.take j) ++ encF P[j].1 := by
    rw [← HM.out, List.take_succ_eq_append_getElem (by rw [List.length_map]; exact hjP), msg_app, List.getElem_map]
    simp [msg]
   have hle := msg_take M (j + 1)
   rw [htk, List.length_append] at hle
   generalize P[j].1 = x at *
   obtain ⟨b2, d2, e2, hs2, hc2⟩ := HO.out.sl
   simp only [Value.slice.injEq] at e2
   obtain ⟨rfl, rfl, rfl⟩ := e2
   have hLD := load_fd (fd_range (hbox.below HB.out))
   obtain ⟨V2, hst, hb2, hbx⟩ := new_fd wr x ba bc
   have hB2 := HB.out.trans (hb2.mono HB.out.size)
   have hll := HL.out
   have CF := ref_field b d (msg (M.take j)) x.num x.kind x.val ba bc x.bytes V2 (by omega) (by have := encI_len_ge x.num x.kind x.val x.bytes; unfold encF at hle; omega) (sl_below hs2 hb2) (sl_below hsl hB2) hva.1 hva.2
   have HTK := Lib.hid htk
   have HB2 := Lib.hid hB2
   clear hp2 hsl hbox hva hle hs2 hc2 HO hB2 hll htk hjP hb2 HB hg
   generalize msg (M.take j) = L at *
   go_upto_region 3 with fail
   refine wl <| gzw (.bool true) (lss_n rfl j n HD.out) <| wn ?_
   simp only [pu]
   go_upto_region 4 with fail
   refine wl <| gzv (.pointer (some ⟨b0, off + j * 4, none⟩)) (idx_fd b0 off n c j hlt _ _ _ rfl (by kernel_rfl) (by kernel_rfl)) <| gzl rfl ⟨b0, off + j * 4, none⟩ (.agg (fdA x ba bc)) hLD ?_
   simp only [pu]
   refine run_to rfl (some 5) rfl (.pointer (some ⟨wr.heap.size, 0, none⟩)) (wr.alloc (.cells (fdA zeroF none 0) 66)) (by kernel_rfl) ?_
   simp only [pu]
   refine gzs rfl hst <| wn ?_
   obtain ⟨g5, hg5⟩ : ∃ g5, wr.heap.size = g5 := ⟨_, rfl⟩
   rw [hg5] at hbx ⊢
   clear hst hg5 hLD
   go_upto_region 5 with fail
   refine wl <| gz1 (.slice b L.length d) <| gzl rfl ⟨g5, 0, none⟩ (.agg (fdA x ba bc)) (load_fdb hbx) <|
    gze (fun v w' => ∃ u, v = .tuple #[u, .int .i64 0] ∧ Own w' V2.heap.size u (L ++ encI x.num x.kind x.val x.bytes) ∧ Below V2.heap.size V2 w') (CF.mono fun e w' q => by obtain ⟨u, he, h⟩ := q; exact ⟨_, he, u, rfl, h⟩) (fun v V3 hq => ?_)
   obtain ⟨u, rfl, hO3, hb3⟩ := hq
   obtain ⟨b3, d3, rfl, -, -⟩ := hO3.sl
   simp only [pu]
   refine gz4 (.tuple #[.slice b3 (L ++ encI x.num x.kind x.val x.bytes).length d3, .int .i64 0]) (.slice b3 (L ++ encI x.num x.kind x.val x.bytes).length d3) (.int .i64 0) (.slice b3 (L ++ encI x.num x.kind x.val x.bytes).length d3) <| wn ?_
   simp only [pu]
   have HO3 := Lib.hid (hO3.base (HB2.out.size))
   have HB3 := Lib.hid (HB2.out.trans (hb3.mono HB2.out.size))
   clear hO3 hb3 hbx CF
   go_upto_region 6 with fail
   refine wl <| gzw (.int .i64 (j + 1 : Nat)) (add_nat rfl j 1 (by omega)) <| gz1 (.int .i64 (j + 1 : Nat)) <| wn ?_
   simp only [pu]
   go_wp2_with fail
   go_roundg (gk - 1)
   case measure => have := HG.out; omega
   case rel => exact ⟨j + 1, b3, _, d3, rfl, rfl, HG.out.2.2, Lib.hid (by rw [HTK.out]; exact HO3.out), HB3, HG.out.1⟩
  ·have HD : Hid (decide ((j : Int) < (n : Int)) = false) := Lib.hid dF
   have HO2 := Lib.hid (by have := HO.out; rwa [List.take_of_length_le (by rw [HPM.out]; omega)] at this : Own wr w.heap.size (.slice b k d) (msg M))
   clear HO hg
   go_upto_region 3 with fail
   refine wl <| gzw (.bool false) (lss_n rfl j n HD.out) <| wn ?_
   simp only [pu]
   go_upto_region 7 with fail
   refine wl <| gz2 (.slice b k d) (.slice b k d) <| wn ?_
   simp only [pu]
   go_wp2_with fail
   go_ret
   exact ⟨_, rfl, HO2.out, HB.out⟩
end Go.Proofs.Ytglglhcnofbagaa
namespace Go.Proofs.Ytglglhcnofbagaa
attribute [local irreducible] wpList wpQuiet
open Go.RowKit
set_option linter.unusedSimpArgs false
set_option linter.unusedVariables false

set_option maxRecDepth 100000 in
set_option maxHeartbeats 8000000 in
theorem ref_follow (s : ByteArray) (k : Nat) (w : World) : Calls Try.prog 83 #[.string s, .int .i64 k] w fun e w' => e = .returned (.bool (fol (nums s) k)) ∧ w = w' := by
 have HIX := Lib.hid (fun (h : k < s.size) => str_at s k h)
 have HV : Hid (fol (nums s) k = (decide (k < s.size) && (decide (128 ≤ (nums s).getD k 0) && decide ((nums s).getD k 0 < 192)))) := Lib.hid (by unfold fol; rw [nums_len])
 generalize fol (nums s) k = t at *
 generalize (nums s).getD k 0 = c at *
 obtain ⟨n, hn⟩ : ∃ n, s.size = n := ⟨_, rfl⟩
 rw [hn] at HIX HV
 go_enter Try.func83, Try.ntmps83
 go_upto_region 1 with fail
 rcases (show n ≤ k ∨ (k < n ∧ c < 128) ∨ (k < n ∧ 128 ≤ c ∧ c < 192) ∨ (k < n ∧ 192 ≤ c) by omega) with hc | hc | hc | hc
 ·have H8 : Hid (decide ((k : Int) < (n : Int)) = false) := Lib.hid dF
  have HE : Hid (t = false) := Lib.hid (by rw [HV.out]; rw [Bool.eq_false_iff]; simp only [ne_eq, Bool.and_eq_true, decide_eq_true_eq]; omega)
  clear HIX HV
  refine wl <| gz2 (.int .i64 k) (.string s) <| gzv (.int .i64 n) (by rw [← hn]; kernel_rfl) <| gzw (.bool false) (lss_n rfl k n H8.out) <| gz6 (.bool false) undef undef undef undef (.bool false) <|
   gz6 (.bool false) undef undef undef undef (.bool false) <| gz1 (.bool false) <| wn ?_
  simp only [pu]
  go_wp2_with fail
  go_ret
  rw [HE.out]
  exact ⟨rfl, rfl⟩
 ·have H8 : Hid (decide ((k : Int) < (n : Int)) = true) := Lib.hid dT
  have HE : Hid (t = false) := Lib.hid (by rw [HV.out]; rw [Bool.eq_false_iff]; simp only [ne_eq, Bool.and_eq_true, decide_eq_true_eq]; omega)
  have hix := HIX.out hc.1
  clear HIX HV
  refine wl <| gz2 (.int .i64 k) (.string s) <| gzv (.int .i64 n) (by rw [← hn]; kernel_rfl) <| gzw (.bool true) (lss_n rfl k n H8.out) <| gz3 (.bool true) (.string s) (.int .i64 k) <| gzv (.int .u8 c) (hix _ _ _ _ rfl (by kernel_rfl) (by kernel_rfl) _) <|
   gzb (geq_u rfl c 128 dF) <| gz6 (.bool false) (.bool false) undef undef undef undef <| gz2 (.bool false) (.bool false) <| wn ?_
  simp only [pu]
  go_wp2_with fail
  go_ret
  rw [HE.out]
  exact ⟨rfl, rfl⟩
 ·have H8 : Hid (decide ((k : Int) < (n : Int)) = true) := Lib.hid dT
  have HE : Hid (t = true) := Lib.hid (by rw [HV.out]; simp only [Bool.and_eq_true, decide_eq_true_eq]; omega)
  have hix := HIX.out hc.1
  clear HIX HV
  refine wl <| gz2 (.int .i64 k) (.string s) <| gzv (.int .i64 n) (by rw [← hn]; kernel_rfl) <| gzw (.bool true) (lss_n rfl k n H8.out) <| gz3 (.bool true) (.string s) (.int .i64 k) <| gzv (.int .u8 c) (hix _ _ _ _ rfl (by kernel_rfl) (by kernel_rfl) _) <|
   gzb (geq_u rfl c 128 dT) <| gz4 (.bool true) (.bool true) (.string s) (.int .i64 k) <| gzv (.int .u8 c) (hix _ _ _ _ rfl (by kernel_rfl) (by kernel_rfl) _) <|
   gzb (lss_u rfl c 192 dT) <| gz2 (.bool true) (.bool true) <| wn ?_
  simp only [pu]
  go_wp2_with fail
  go_ret
  rw [HE.out]
  exact ⟨rfl, rfl⟩
 ·have H8 : Hid (decide ((k : Int) < (n : Int)) = true) := Lib.hid dT
  have HE : Hid (t = false) := Lib.hid (by rw [HV.out]; rw [Bool.eq_false_iff]; simp only [ne_eq, Bool.and_eq_true, decide_eq_true_eq]; omega)
  have hix := HIX.out hc.1
  clear HIX HV
  refine wl <| gz2 (.int .i64 k) (.string s) <| gzv (.int .i64 n) (by rw [← hn]; kernel_rfl) <| gzw (.bool true) (lss_n rfl k n H8.out) <| gz3 (.bool true) (.string s) (.int .i64 k) <| gzv (.int .u8 c) (hix _ _ _ _ rfl (by kernel_rfl) (by kernel_rfl) _) <|
   gzb (geq_u rfl c 128 dT) <| gz4 (.bool true) (.bool true) (.string s) (.int .i64 k) <| gzv (.int .u8 c) (hix _ _ _ _ rfl (by kernel_rfl) (by kernel_rfl) _) <|
   gzb (lss_u rfl c 192 dF) <| gz2 (.bool false) (.bool false) <| wn ?_
  simp only [pu]
  go_wp2_with fail
  go_ret
  rw [HE.out]
  exact ⟨rfl, rfl⟩
set_option maxRecDepth 100000 in
set_option maxHeartbeats 8000000 in
theorem ref_rune (s : ByteArray) (i : Nat) (w : World) (hi : i < s.size) (hl : s.size ≤ 140737488355328) : Calls Try.prog 66 #[.string s, .int .i64 i] w fun e w' => e = .returned (.int .i64 (runK (nums s) i : Nat)) ∧ w = w' := by
 have hix := str_at s i hi
 have HI1 := Lib.hid (fun (h : fol (nums s) (i + 1) = true) => str_at s (i + 1) (by have := (fol_rng h).1; rwa [nums_len] at this))
 have CF1 := ref_follow s (i + 1) w
 have CF2 := ref_follow s (i + 2) w
 have CF3 := ref_follow s (i + 3) w
 have HV : Hid (runK (nums s) i = runN ((nums s).getD i 0) ((nums s).getD (i + 1) 0) (fol (nums s) (i + 1)) (fol (nums s) (i + 2)) (fol (nums s) (i + 3))) := Lib.hid rfl
 generalize runK (nums s) i = r at *
 generalize (nums s).getD i 0 = c at *
 generalize (nums s).getD (i + 1) 0 = d at *
 generalize fol (nums s) (i + 1) = f1 at *
 generalize fol (nums s) (i + 2) = f2 at *
 generalize fol (nums s) (i + 3) = f3 at *
 go_enter Try.func66, Try.ntmps66
 go_upto_region 1 with fail
 refine wl <| gz2 (.string s) (.int .i64 i) <| gzv (.int .u8 c) (hix _ _ _ _ rfl (by kernel_rfl) (by kernel_rfl) _) <| gz1 (.int .u8 c) <| wn ?_
 simp only [pu]
 clear hix
 go_upto_region 2 with fail
 rcases (show (c < 128) ∨ (128 ≤ c ∧ c < 194) ∨ (194 ≤ c ∧ c < 224) ∨ (224 ≤ c ∧ c < 240) ∨ (240 ≤ c ∧ c < 245) ∨ (245 ≤ c) by omega) with hc | hc | hc | hc | hc | hc
 ·skip
  refine wl <| gz1 (.int .u8 c) <| gzb (lss_u rfl c 128 dT) <| gz1 (.bool true) <| wn ?_
  simp only [pu]
  have HE : Hid (r = 1) := by
   refine Lib.hid ?_
   rw [HV.out]
   unfold runN
   try simp only [and_true, and_false, false_and, true_and, if_false, if_true, eq_self, Bool.false_eq_true, reduceCtorEq]
   repeat' split
   all_goals (first | rfl | omega)
  go_upto_region 3 with fail
  refine wl <| gz1 (.int .i64 1) <| wn ?_
  simp only [pu]
  go_wp2_with fail
  go_ret
  rw [HE.out]
  exact ⟨rfl, rfl⟩
 ·skip
  refine wl <| gz1 (.int .u8 c) <| gzb (lss_u rfl c 128 dF) <| gz1 (.bool false) <| wn ?_
  simp only [pu]
  go_upto_region 4 with fail
  refine wl <| gz1 (.int .u8 c) <| gzb (geq_u rfl c 194 dF) <| gz6 (.bool false) undef undef (.bool false) (.bool false) undef <| gz5 undef undef undef (.bool false) (.bool false) <| wn ?_
  simp only [pu]
  go_upto_region 6 with fail
  refine wl <| gz1 (.int .u8 c) <| gzb (geq_u rfl c 224 dF) <| gz6 (.bool false) undef undef (.bool false) (.bool false) undef <| gz6 undef undef undef (.bool false) (.bool false) undef <|
   gz5 undef undef undef (.bool false) (.bool false) <| wn ?_
  simp only [pu]
  go_upto_region 10 with fail
  refine wl <| gz1 (.int .u8 c) <| gzb (geq_u rfl c 240 dF) <| gz6 (.bool false) undef undef (.bool false) (.bool false) undef <| gz6 undef undef undef (.bool false) (.bool false) undef <|
   gz6 undef undef undef (.bool false) (.bool false) undef <| gz5 undef undef undef (.bool false) (.bool false) <| wn ?_
  simp only [pu]
  have HE : Hid (r = 0) := by
   refine Lib.hid ?_
   rw [HV.out]
   unfold runN
   try simp only [and_true, and_false, false_and, true_and, if_false, if_true, eq_self, Bool.false_eq_true, reduceCtorEq]
   repeat' split
   all_goals (first | rfl | omega)
  go_upto_region 14 with fail
  refine wl <| gz1 (.int .i64 0) <| wn ?_
  simp only [pu]
  go_wp2_with fail
  go_ret
  rw [HE.out]
  exact ⟨rfl, rfl⟩
 ·skip
  refine wl <| gz1 (.int .u8 c) <| gzb (lss_u rfl c 128 dF) <| gz1 (.bool false) <| wn ?_
  simp only [pu]
  cases f1
  ·skip
   go_upto_region 4 with fail
   refine wl <| gz1 (.int .u8 c) <| gzb (geq_u rfl c 194 dT) <| gz2 (.bool true) (.int .u8 c) <| gzb (lss_u rfl c 224 dT) <|
    gz4 (.bool true) (.bool true) (.string s) (.int .i64 i) <| gzw (.int .i64 (i + 1 : Nat)) (add_nat rfl i 1 (by omega)) <| gzc (.bool false) (fun w' => w = w') CF1 (fun W hW => ?_)
   subst hW
   simp only [pu]
   refine gz2 (.bool false) (.bool false) <| wn ?_
   simp only [pu]
   go_upto_region 6 with fail
   refine wl <| gz1 (.int .u8 c) <| gzb (geq_u rfl c 224 dF) <| gz6 (.bool false) undef undef (.bool false) (.bool false) undef <| gz6 undef undef undef (.bool false) (.bool false) undef <|
    gz5 undef undef undef (.bool false) (.bool false) <| wn ?_
   simp only [pu]
   go_upto_region 10 with fail
   refine wl <| gz1 (.int .u8 c) <| gzb (geq_u rfl c 240 dF) <| gz6 (.bool false) undef undef (.bool false) (.bool false) undef <| gz6 undef undef undef (.bool false) (.bool false) undef <|
    gz6 undef undef undef (.bool false) (.bool false) undef <| gz5 undef undef undef (.bool false) (.bool false) <| wn ?_
   simp only [pu]
   have HE : Hid (r = 0) := by
    refine Lib.hid ?_
    rw [HV.out]
    unfold runN
    try simp only [and_true, and_false, false_and, true_and, if_false, if_true, eq_self, Bool.false_eq_true, reduceCtorEq]
    repeat' split
    all_goals (first | rfl | omega)
   go_upto_region 14 with fail
   refine wl <| gz1 (.int .i64 0) <| wn ?_
   simp only [pu]
   go_wp2_with fail
   go_ret
   rw [HE.out]
   exact ⟨rfl, rfl⟩
  ·skip
   go_upto_region 4 with fail
   refine wl <| gz1 (.int .u8 c) <| gzb (geq_u rfl c 194 dT) <| gz2 (.bool true) (.int .u8 c) <| gzb (lss_u rfl c 224 dT) <|
    gz4 (.bool true) (.bool true) (.string s) (.int .i64 i) <| gzw (.int .i64 (i + 1 : Nat)) (add_nat rfl i 1 (by omega)) <| gzc (.bool true) (fun w' => w = w') CF1 (fun W hW => ?_)
   subst hW
   simp only [pu]
   refine gz2 (.bool true) (.bool true) <| wn ?_
   simp only [pu]
   have HE : Hid (r = 2) := by
    refine Lib.hid ?_
    rw [HV.out]
    unfold runN
    try simp only [and_true, and_false, false_and, true_and, if_false, if_true, eq_self, Bool.false_eq_true, reduceCtorEq]
    repeat' split
    all_goals (first | rfl | omega)
   go_upto_region 5 with fail
   refine wl <| gz1 (.int .i64 2) <| wn ?_
   simp only [pu]
   go_wp2_with fail
   go_ret
   rw [HE.out]
   exact ⟨rfl, rfl⟩
 ·skip
  refine wl <| gz1 (.int .u8 c) <| gzb (lss_u rfl c 128 dF) <| gz1 (.bool false) <| wn ?_
  simp only [pu]
  cases f1
  ·skip
   go_upto_region 4 with fail
   refine wl <| gz1 (.int .u8 c) <| gzb (geq_u rfl c 194 dT) <| gz2 (.bool true) (.int .u8 c) <| gzb (lss_u rfl c 224 dF) <|
    gz6 (.bool false) (.bool false) undef undef undef undef <| gz2 (.bool false) (.bool false) <| wn ?_
   simp only [pu]
   go_upto_region 6 with fail
   refine wl <| gz1 (.int .u8 c) <| gzb (geq_u rfl c 224 dT) <| gz2 (.bool true) (.int .u8 c) <| gzb (lss_u rfl c 240 dT) <|
    gz4 (.bool true) (.bool true) (.string s) (.int .i64 i) <| gzw (.int .i64 (i + 1 : Nat)) (add_nat rfl i 1 (by omega)) <| gzc (.bool false) (fun w' => w = w') CF1 (fun W hW => ?_)
   subst hW
   simp only [pu]
   refine gz6 (.bool false) (.bool false) undef undef undef undef <| gz2 (.bool false) (.bool false) <| wn ?_
   simp only [pu]
   go_upto_region 10 with fail
   refine wl <| gz1 (.int .u8 c) <| gzb (geq_u rfl c 240 dF) <| gz6 (.bool false) undef undef (.bool false) (.bool false) undef <| gz6 undef undef undef (.bool false) (.bool false) undef <|
    gz6 undef undef undef (.bool false) (.bool false) undef <| gz5 undef undef undef (.bool false) (.bool false) <| wn ?_
   simp only [pu]
   have HE : Hid (r = 0) := by
    refine Lib.hid ?_
    rw [HV.out]
    unfold runN
    try simp only [and_true, and_false, false_and, true_and, if_false, if_true, eq_self, Bool.false_eq_true, reduceCtorEq]
    repeat' split
    all_goals (first | rfl | omega)
   go_upto_region 14 with fail
   refine wl <| gz1 (.int .i64 0) <| wn ?_
   simp only [pu]
   go_wp2_with fail
   go_ret
   rw [HE.out]
   exact ⟨rfl, rfl⟩
  ·skip
   cases f2
   ·skip
    go_upto_region 4 with fail
    refine wl <| gz1 (.int .u8 c) <| gzb (geq_u rfl c 194 dT) <| gz2 (.bool true) (.int .u8 c) <| gzb (lss_u rfl c 224 dF) <|
     gz6 (.bool false) (.bool false) undef undef undef undef <| gz2 (.bool false) (.bool false) <| wn ?_
    simp only [pu]
    go_upto_region 6 with fail
    refine wl <| gz1 (.int .u8 c) <| gzb (geq_u rfl c 224 dT) <| gz2 (.bool true) (.int .u8 c) <| gzb (lss_u rfl c 240 dT) <|
     gz4 (.bool true) (.bool true) (.string s) (.int .i64 i) <| gzw (.int .i64 (i + 1 : Nat)) (add_nat rfl i 1 (by omega)) <| gzc (.bool true) (fun w' => w = w') CF1 (fun W hW => ?_)
    subst hW
    simp only [pu]
    refine gz4 (.bool true) (.bool true) (.string s) (.int .i64 i) <| gzw (.int .i64 (i + 2 : Nat)) (add_nat rfl i 2 (by omega)) <| gzc (.bool false) (fun w' => w = w') CF2 (fun W hW => ?_)
    subst hW
    simp only [pu]
    refine gz2 (.bool false) (.bool false) <| wn ?_
    simp only [pu]
    go_upto_region 10 with fail
    refine wl <| gz1 (.int .u8 c) <| gzb (geq_u rfl c 240 dF) <| gz6 (.bool false) undef undef (.bool false) (.bool false) undef <| gz6 undef undef undef (.bool false) (.bool false) undef <|
     gz6 undef undef undef (.bool false) (.bool false) undef <| gz5 undef undef undef (.bool false) (.bool false) <| wn ?_
    simp only [pu]
    have HE : Hid (r = 0) := by
     refine Lib.hid ?_
     rw [HV.out]
     unfold runN
     try simp only [and_true, and_false, false_and, true_and, if_false, if_true, eq_self, Bool.false_eq_true, reduceCtorEq]
     repeat' split
     all_goals (first | rfl | omega)
    go_upto_region 14 with fail
    refine wl <| gz1 (.int .i64 0) <| wn ?_
    simp only [pu]
    go_wp2_with fail
    go_ret
    rw [HE.out]
    exact ⟨rfl, rfl⟩
   ·skip
    go_upto_region 4 with fail
    refine wl <| gz1 (.int .u8 c) <| gzb (geq_u rfl c 194 dT) <| gz2 (.bool true) (.int .u8 c) <| gzb (lss_u rfl c 224 dF) <|
     gz6 (.bool false) (.bool false) undef undef undef undef <| gz2 (.bool false) (.bool false) <| wn ?_
    simp only [pu]
    go_upto_region 6 with fail
    refine wl <| gz1 (.int .u8 c) <| gzb (geq_u rfl c 224 dT) <| gz2 (.bool true) (.int .u8 c) <| gzb (lss_u rfl c 240 dT) <|
     gz4 (.bool true) (.bool true) (.string s) (.int .i64 i) <| gzw (.int .i64 (i + 1 : Nat)) (add_nat rfl i 1 (by omega)) <| gzc (.bool true) (fun w' => w = w') CF1 (fun W hW => ?_)
    subst hW
    simp only [pu]
    refine gz4 (.bool true) (.bool true) (.string s) (.int .i64 i) <| gzw (.int .i64 (i + 2 : Nat)) (add_nat rfl i 2 (by omega)) <| gzc (.bool true) (fun w' => w = w') CF2 (fun W hW => ?_)
    subst hW
    simp only [pu]
    refine gz2 (.bool true) (.bool true) <| wn ?_
    simp only [pu]
    have hid := HI1.out rfl
    clear HI1
    go_upto_region 7 with fail
    rcases (show (c = 224 ∧ d < 160) ∨ (c = 224 ∧ 160 ≤ d) ∨ (c = 237 ∧ d < 160) ∨ (c = 237 ∧ 160 ≤ d) ∨ (c ≠ 224 ∧ c ≠ 237) by omega) with hd | hd | hd | hd | hd
    ·skip
     refine wl <| gz1 (.int .u8 c) <| gzb (eql_u rfl c 224 dT) <| gz3 (.bool true) (.string s) (.int .i64 i) <| gzw (.int .i64 (i + 1 : Nat)) (add_nat rfl i 1 (by omega)) <|
      gzv (.int .u8 d) (hid _ _ _ _ rfl (by kernel_rfl) (by kernel_rfl) _) <| gzb (lss_u rfl d 160 dT) <| gz6 (.bool true) (.bool true) undef undef undef undef <| gz6 undef undef undef undef undef (.bool true) <|
      wpList_nil ?_
     simp only [pu]
     have HE : Hid (r = 0) := by
      refine Lib.hid ?_
      rw [HV.out]
      unfold runN
      try simp only [and_true, and_false, false_and, true_and, if_false, if_true, eq_self, Bool.false_eq_true, reduceCtorEq]
      repeat' split
      all_goals (first | rfl | omega)
     go_upto_region 8 with fail
     refine wl <| gz1 (.int .i64 0) <| wn ?_
     simp only [pu]
     go_wp2_with fail
     go_ret
     rw [HE.out]
     exact ⟨rfl, rfl⟩
    ·skip
     refine wl <| gz1 (.int .u8 c) <| gzb (eql_u rfl c 224 dT) <| gz3 (.bool true) (.string s) (.int .i64 i) <| gzw (.int .i64 (i + 1 : Nat)) (add_nat rfl i 1 (by omega)) <|
      gzv (.int .u8 d) (hid _ _ _ _ rfl (by kernel_rfl) (by kernel_rfl) _) <| gzb (lss_u rfl d 160 dF) <| gz3 (.bool false) (.bool false) (.int .u8 c) <|
      gzb (eql_u rfl c 237 dF) <| gz6 (.bool false) undef undef undef undef undef <| gz2 (.bool false) (.bool false) <| wn ?_
     simp only [pu]
     have HE : Hid (r = 3) := by
      refine Lib.hid ?_
      rw [HV.out]
      unfold runN
      try simp only [and_true, and_false, false_and, true_and, if_false, if_true, eq_self, Bool.false_eq_true, reduceCtorEq]
      repeat' split
      all_goals (first | rfl | omega)
     go_upto_region 9 with fail
     refine wl <| gz1 (.int .i64 3) <| wn ?_
     simp only [pu]
     go_wp2_with fail
     go_ret
     rw [HE.out]
     exact ⟨rfl, rfl⟩
    ·skip
     refine wl <| gz1 (.int .u8 c) <| gzb (eql_u rfl c 224 dF) <| gz6 (.bool false) undef undef undef undef undef <| gz3 (.bool false) (.bool false) (.int .u8 c) <|
      gzb (eql_u rfl c 237 dT) <| gz3 (.bool true) (.string s) (.int .i64 i) <| gzw (.int .i64 (i + 1 : Nat)) (add_nat rfl i 1 (by omega)) <|
      gzv (.int .u8 d) (hid _ _ _ _ rfl (by kernel_rfl) (by kernel_rfl) _) <| gzb (geq_u rfl d 160 dF) <| gz2 (.bool false) (.bool false) <| wn ?_
     simp only [pu]
     have HE : Hid (r = 3) := by
      refine Lib.hid ?_
      rw [HV.out]
      unfold runN
      try simp only [and_true, and_false, false_and, true_and, if_false, if_true, eq_self, Bool.false_eq_true, reduceCtorEq]
      repeat' split
      all_goals (first | rfl | omega)
     go_upto_region 9 with fail
     refine wl <| gz1 (.int .i64 3) <| wn ?_
     simp only [pu]
     go_wp2_with fail
     go_ret
     rw [HE.out]
     exact ⟨rfl, rfl⟩
    ·skip
     refine wl <| gz1 (.int .u8 c) <| gzb (eql_u rfl c 224 dF) <| gz6 (.bool false) undef undef undef undef undef <| gz3 (.bool false) (.bool false) (.int .u8 c) <|
      gzb (eql_u rfl c 237 dT) <| gz3 (.bool true) (.string s) (.int .i64 i) <| gzw (.int .i64 (i + 1 : Nat)) (add_nat rfl i 1 (by omega)) <|
      gzv (.int .u8 d) (hid _ _ _ _ rfl (by kernel_rfl) (by kernel_rfl) _) <| gzb (geq_u rfl d 160 dT) <| gz2 (.bool true) (.bool true) <| wn ?_
     simp only [pu]
     have HE : Hid (r = 0) := by
      refine Lib.hid ?_
      rw [HV.out]
      unfold runN
      try simp only [and_true, and_false, false_and, true_and, if_false, if_true, eq_self, Bool.false_eq_true, reduceCtorEq]
      repeat' split
      all_goals (first | rfl | omega)
     go_upto_region 8 with fail
     refine wl <| gz1 (.int .i64 0) <| wn ?_
     simp only [pu]
     go_wp2_with fail
     go_ret
     rw [HE.out]
     exact ⟨rfl, rfl⟩
    ·skip
     refine wl <| gz1 (.int .u8 c) <| gzb (eql_u rfl c 224 dF) <| gz6 (.bool false) undef undef undef undef undef <| gz3 (.bool false) (.bool false) (.int .u8 c) <|
      gzb (eql_u rfl c 237 dF) <| gz6 (.bool false) undef undef undef undef undef <| gz2 (.bool false) (.bool false) <| wn ?_
     simp only [pu]
     have HE : Hid (r = 3) := by
      refine Lib.hid ?_
      rw [HV.out]
      unfold runN
      try simp only [and_true, and_false, false_and, true_and, if_false, if_true, eq_self, Bool.false_eq_true, reduceCtorEq]
      repeat' split
      all_goals (first | rfl | omega)
     go_upto_region 9 with fail
     refine wl <| gz1 (.int .i64 3) <| wn ?_
     simp only [pu]
     go_wp2_with fail
     go_ret
     rw [HE.out]
     exact ⟨rfl, rfl⟩
 ·skip
  refine wl <| gz1 (.int .u8 c) <| gzb (lss_u rfl c 128 dF) <| gz1 (.bool false) <| wn ?_
  simp only [pu]
  cases f1
  ·skip
   go_upto_region 4 with fail
   refine wl <| gz1 (.int .u8 c) <| gzb (geq_u rfl c 194 dT) <| gz2 (.bool true) (.int .u8 c) <| gzb (lss_u rfl c 224 dF) <|
    gz6 (.bool false) (.bool false) undef undef undef undef <| gz2 (.bool false) (.bool false) <| wn ?_
   simp only [pu]
   go_upto_region 6 with fail
   refine wl <| gz1 (.int .u8 c) <| gzb (geq_u rfl c 224 dT) <| gz2 (.bool true) (.int .u8 c) <| gzb (lss_u rfl c 240 dF) <|
    gz6 (.bool false) (.bool false) undef undef undef undef <| gz6 (.bool false) (.bool false) undef undef undef undef <| gz2 (.bool false) (.bool false) <| wn ?_
   simp only [pu]
   go_upto_region 10 with fail
   refine wl <| gz1 (.int .u8 c) <| gzb (geq_u rfl c 240 dT) <| gz2 (.bool true) (.int .u8 c) <| gzb (lss_u rfl c 245 dT) <|
    gz4 (.bool true) (.bool true) (.string s) (.int .i64 i) <| gzw (.int .i64 (i + 1 : Nat)) (add_nat rfl i 1 (by omega)) <| gzc (.bool false) (fun w' => w = w') CF1 (fun W hW => ?_)
   subst hW
   simp only [pu]
   refine gz6 (.bool false) (.bool false) undef undef undef undef <| gz6 (.bool false) (.bool false) undef undef undef undef <| gz2 (.bool false) (.bool false) <| wn ?_
   simp only [pu]
   have HE : Hid (r = 0) := by
    refine Lib.hid ?_
    rw [HV.out]
    unfold runN
    try simp only [and_true, and_false, false_and, true_and, if_false, if_true, eq_self, Bool.false_eq_true, reduceCtorEq]
    repeat' split
    all_goals (first | rfl | omega)
   go_upto_region 14 with fail
   refine wl <| gz1 (.int .i64 0) <| wn ?_
   simp only [pu]
   go_wp2_with fail
   go_ret
   rw [HE.out]
   exact ⟨rfl, rfl⟩
  ·skip
   cases f2
   ·skip
    go_upto_region 4 with fail
    refine wl <| gz1 (.int .u8 c) <| gzb (geq_u rfl c 194 dT) <| gz2 (.bool true) (.int .u8 c) <| gzb (lss_u rfl c 224 dF) <|
     gz6 (.bool false) (.bool false) undef undef undef undef <| gz2 (.bool false) (.bool false) <| wn ?_
    simp only [pu]
    go_upto_region 6 with fail
    refine wl <| gz1 (.int .u8 c) <| gzb (geq_u rfl c 224 dT) <| gz2 (.bool true) (.int .u8 c) <| gzb (lss_u rfl c 240 dF) <|
     gz6 (.bool false) (.bool false) undef undef undef undef <| gz6 (.bool false) (.bool false) undef undef undef undef <| gz2 (.bool false) (.bool false) <| wn ?_
    simp only [pu]
    go_upto_region 10 with fail
    refine wl <| gz1 (.int .u8 c) <| gzb (geq_u rfl c 240 dT) <| gz2 (.bool true) (.int .u8 c) <| gzb (lss_u rfl c 245 dT) <|
     gz4 (.bool true) (.bool true) (.string s) (.int .i64 i) <| gzw (.int .i64 (i + 1 : Nat)) (add_nat rfl i 1 (by omega)) <| gzc (.bool true) (fun w' => w = w') CF1 (fun W hW => ?_)
    subst hW
    simp only [pu]
    refine gz4 (.bool true) (.bool true) (.string s) (.int .i64 i) <| gzw (.int .i64 (i + 2 : Nat)) (add_nat rfl i 2 (by omega)) <| gzc (.bool false) (fun w' => w = w') CF2 (fun W hW => ?_)
    subst hW
    simp only [pu]
    refine gz6 (.bool false) (.bool false) undef undef undef undef <| gz2 (.bool false) (.bool false) <| wn ?_
    simp only [pu]
    have HE : Hid (r = 0) := by
     refine Lib.hid ?_
     rw [HV.out]
     unfold runN
     try simp only [and_true, and_false, false_and, true_and, if_false, if_true, eq_self, Bool.false_eq_true, reduceCtorEq]
     repeat' split
     all_goals (first | rfl | omega)
    go_upto_region 14 with fail
    refine wl <| gz1 (.int .i64 0) <| wn ?_
    simp only [pu]
    go_wp2_with fail
    go_ret
    rw [HE.out]
    exact ⟨rfl, rfl⟩
   ·skip
    cases f3
    ·skip
     go_upto_region 4 with fail
     refine wl <| gz1 (.int .u8 c) <| gzb (geq_u rfl c 194 dT) <| gz2 (.bool true) (.int .u8 c) <| gzb (lss_u rfl c 224 dF) <|
      gz6 (.bool false) (.bool false) undef undef undef undef <| gz2 (.bool false) (.bool false) <| wn ?_
     simp only [pu]
     go_upto_region 6 with fail
     refine wl <| gz1 (.int .u8 c) <| gzb (geq_u rfl c 224 dT) <| gz2 (.bool true) (.int .u8 c) <| gzb (lss_u rfl c 240 dF) <|
      gz6 (.bool false) (.bool false) undef undef undef undef <| gz6 (.bool false) (.bool false) undef undef undef undef <| gz2 (.bool false) (.bool false) <| wn ?_
     simp only [pu]
     go_upto_region 10 with fail
     refine wl <| gz1 (.int .u8 c) <| gzb (geq_u rfl c 240 dT) <| gz2 (.bool true) (.int .u8 c) <| gzb (lss_u rfl c 245 dT) <|
      gz4 (.bool true) (.bool true) (.string s) (.int .i64 i) <| gzw (.int .i64 (i + 1 : Nat)) (add_nat rfl i 1 (by omega)) <| gzc (.bool true) (fun w' => w = w') CF1 (fun W hW => ?_)
     subst hW
     simp only [pu]
     refine gz4 (.bool true) (.bool true) (.string s) (.int .i64 i) <| gzw (.int .i64 (i + 2 : Nat)) (add_nat rfl i 2 (by omega)) <| gzc (.bool true) (fun w' => w = w') CF2 (fun W hW => ?_)
     subst hW
     simp only [pu]
     refine gz4 (.bool true) (.bool true) (.string s) (.int .i64 i) <| gzw (.int .i64 (i + 3 : Nat)) (add_nat rfl i 3 (by omega)) <| gzc (.bool false) (fun w' => w = w') CF3 (fun W hW => ?_)
     subst hW
     simp only [pu]
     refine gz2 (.bool false) (.bool false) <| wn ?_
     simp only [pu]
     have HE : Hid (r = 0) := by
      refine Lib.hid ?_
      rw [HV.out]
      unfold runN
      try simp only [and_true, and_false, false_and, true_and, if_false, if_true, eq_self, Bool.false_eq_true, reduceCtorEq]
      repeat' split
      all_goals (first | rfl | omega)
     go_upto_region 14 with fail
     refine wl <| gz1 (.int .i64 0) <| wn ?_
     simp only [pu]
     go_wp2_with fail
     go_ret
     rw [HE.out]
     exact ⟨rfl, rfl⟩
    ·skip
     go_upto_region 4 with fail
     refine wl <| gz1 (.int .u8 c) <| gzb (geq_u rfl c 194 dT) <| gz2 (.bool true) (.int .u8 c) <| gzb (lss_u rfl c 224 dF) <|
      gz6 (.bool false) (.bool false) undef undef undef undef <| gz2 (.bool false) (.bool false) <| wn ?_
     simp only [pu]
     go_upto_region 6 with fail
     refine wl <| gz1 (.int .u8 c) <| gzb (geq_u rfl c 224 dT) <| gz2 (.bool true) (.int .u8 c) <| gzb (lss_u rfl c 240 dF) <|
      gz6 (.bool false) (.bool false) undef undef undef undef <| gz6 (.bool false) (.bool false) undef undef undef undef <| gz2 (.bool false) (.bool false) <| wn ?_
     simp only [pu]
     go_upto_region 10 with fail
     refine wl <| gz1 (.int .u8 c) <| gzb (geq_u rfl c 240 dT) <| gz2 (.bool true) (.int .u8 c) <| gzb (lss_u rfl c 245 dT) <|
      gz4 (.bool true) (.bool true) (.string s) (.int .i64 i) <| gzw (.int .i64 (i + 1 : Nat)) (add_nat rfl i 1 (by omega)) <| gzc (.bool true) (fun w' => w = w') CF1 (fun W hW => ?_)
     subst hW
     simp only [pu]
     refine gz4 (.bool true) (.bool true) (.string s) (.int .i64 i) <| gzw (.int .i64 (i + 2 : Nat)) (add_nat rfl i 2 (by omega)) <| gzc (.bool true) (fun w' => w = w') CF2 (fun W hW => ?_)
     subst hW
     simp only [pu]
     refine gz4 (.bool true) (.bool true) (.string s) (.int .i64 i) <| gzw (.int .i64 (i + 3 : Nat)) (add_nat rfl i 3 (by omega)) <| gzc (.bool true) (fun w' => w = w') CF3 (fun W hW => ?_)
     subst hW
     simp only [pu]
     refine gz2 (.bool true) (.bool true) <| wn ?_
     simp only [pu]
     have hid := HI1.out rfl
     clear HI1
     go_upto_region 11 with fail
     rcases (show (c = 240 ∧ d < 144) ∨ (c = 240 ∧ 144 ≤ d) ∨ (c = 244 ∧ d < 144) ∨ (c = 244 ∧ 144 ≤ d) ∨ (c ≠ 240 ∧ c ≠ 244) by omega) with hd | hd | hd | hd | hd
     ·skip
      refine wl <| gz1 (.int .u8 c) <| gzb (eql_u rfl c 240 dT) <| gz3 (.bool true) (.string s) (.int .i64 i) <| gzw (.int .i64 (i + 1 : Nat)) (add_nat rfl i 1 (by omega)) <|
       gzv (.int .u8 d) (hid _ _ _ _ rfl (by kernel_rfl) (by kernel_rfl) _) <| gzb (lss_u rfl d 144 dT) <| gz6 (.bool true) (.bool true) undef undef undef undef <| gz6 undef undef undef undef undef (.bool true) <|
       wpList_nil ?_
      simp only [pu]
      have HE : Hid (r = 0) := by
       refine Lib.hid ?_
       rw [HV.out]
       unfold runN
       try simp only [and_true, and_false, false_and, true_and, if_false, if_true, eq_self, Bool.false_eq_true, reduceCtorEq]
       repeat' split
       all_goals (first | rfl | omega)
      go_upto_region 12 with fail
      refine wl <| gz1 (.int .i64 0) <| wn ?_
      simp only [pu]
      go_wp2_with fail
      go_ret
      rw [HE.out]
      exact ⟨rfl, rfl⟩
     ·skip
      refine wl <| gz1 (.int .u8 c) <| gzb (eql_u rfl c 240 dT) <| gz3 (.bool true) (.string s) (.int .i64 i) <| gzw (.int .i64 (i + 1 : Nat)) (add_nat rfl i 1 (by omega)) <|
       gzv (.int .u8 d) (hid _ _ _ _ rfl (by kernel_rfl) (by kernel_rfl) _) <| gzb (lss_u rfl d 144 dF) <| gz3 (.bool false) (.bool false) (.int .u8 c) <|
       gzb (eql_u rfl c 244 dF) <| gz6 (.bool false) undef undef undef undef undef <| gz2 (.bool false) (.bool false) <| wn ?_
      simp only [pu]
      have HE : Hid (r = 4) := by
       refine Lib.hid ?_
       rw [HV.out]
       unfold runN
       try simp only [and_true, and_false, false_and, true_and, if_false, if_true, eq_self, Bool.false_eq_true, reduceCtorEq]
       repeat' split
       all_goals (first | rfl | omega)
      go_upto_region 13 with fail
      refine wl <| gz1 (.int .i64 4) <| wn ?_
      simp only [pu]
      go_wp2_with fail
      go_ret
      rw [HE.out]
      exact ⟨rfl, rfl⟩
     ·skip
      refine wl <| gz1 (.int .u8 c) <| gzb (eql_u rfl c 240 dF) <| gz6 (.bool false) undef undef undef undef undef <| gz3 (.bool false) (.bool false) (.int .u8 c) <|
       gzb (eql_u rfl c 244 dT) <| gz3 (.bool true) (.string s) (.int .i64 i) <| gzw (.int .i64 (i + 1 : Nat)) (add_nat rfl i 1 (by omega)) <|
       gzv (.int .u8 d) (hid _ _ _ _ rfl (by kernel_rfl) (by kernel_rfl) _) <| gzb (geq_u rfl d 144 dF) <| gz2 (.bool false) (.bool false) <| wn ?_
      simp only [pu]
      have HE : Hid (r = 4) := by
       refine Lib.hid ?_
       rw [HV.out]
       unfold runN
       try simp only [and_true, and_false, false_and, true_and, if_false, if_true, eq_self, Bool.false_eq_true, reduceCtorEq]
       repeat' split
       all_goals (first | rfl | omega)
      go_upto_region 13 with fail
      refine wl <| gz1 (.int .i64 4) <| wn ?_
      simp only [pu]
      go_wp2_with fail
      go_ret
      rw [HE.out]
      exact ⟨rfl, rfl⟩
     ·skip
      refine wl <| gz1 (.int .u8 c) <| gzb (eql_u rfl c 240 dF) <| gz6 (.bool false) undef undef undef undef undef <| gz3 (.bool false) (.bool false) (.int .u8 c) <|
       gzb (eql_u rfl c 244 dT) <| gz3 (.bool true) (.string s) (.int .i64 i) <| gzw (.int .i64 (i + 1 : Nat)) (add_nat rfl i 1 (by omega)) <|
       gzv (.int .u8 d) (hid _ _ _ _ rfl (by kernel_rfl) (by kernel_rfl) _) <| gzb (geq_u rfl d 144 dT) <| gz2 (.bool true) (.bool true) <| wn ?_
      simp only [pu]
      have HE : Hid (r = 0) := by
       refine Lib.hid ?_
       rw [HV.out]
       unfold runN
       try simp only [and_true, and_false, false_and, true_and, if_false, if_true, eq_self, Bool.false_eq_true, reduceCtorEq]
       repeat' split
       all_goals (first | rfl | omega)
      go_upto_region 12 with fail
      refine wl <| gz1 (.int .i64 0) <| wn ?_
      simp only [pu]
      go_wp2_with fail
      go_ret
      rw [HE.out]
      exact ⟨rfl, rfl⟩
     ·skip
      refine wl <| gz1 (.int .u8 c) <| gzb (eql_u rfl c 240 dF) <| gz6 (.bool false) undef undef undef undef undef <| gz3 (.bool false) (.bool false) (.int .u8 c) <|
       gzb (eql_u rfl c 244 dF) <| gz6 (.bool false) undef undef undef undef undef <| gz2 (.bool false) (.bool false) <| wn ?_
      simp only [pu]
      have HE : Hid (r = 4) := by
       refine Lib.hid ?_
       rw [HV.out]
       unfold runN
       try simp only [and_true, and_false, false_and, true_and, if_false, if_true, eq_self, Bool.false_eq_true, reduceCtorEq]
       repeat' split
       all_goals (first | rfl | omega)
      go_upto_region 13 with fail
      refine wl <| gz1 (.int .i64 4) <| wn ?_
      simp only [pu]
      go_wp2_with fail
      go_ret
      rw [HE.out]
      exact ⟨rfl, rfl⟩
 ·skip
  refine wl <| gz1 (.int .u8 c) <| gzb (lss_u rfl c 128 dF) <| gz1 (.bool false) <| wn ?_
  simp only [pu]
  go_upto_region 4 with fail
  refine wl <| gz1 (.int .u8 c) <| gzb (geq_u rfl c 194 dT) <| gz2 (.bool true) (.int .u8 c) <| gzb (lss_u rfl c 224 dF) <|
   gz6 (.bool false) (.bool false) undef undef undef undef <| gz2 (.bool false) (.bool false) <| wn ?_
  simp only [pu]
  go_upto_region 6 with fail
  refine wl <| gz1 (.int .u8 c) <| gzb (geq_u rfl c 224 dT) <| gz2 (.bool true) (.int .u8 c) <| gzb (lss_u rfl c 240 dF) <|
   gz6 (.bool false) (.bool false) undef undef undef undef <| gz6 (.bool false) (.bool false) undef undef undef undef <| gz2 (.bool false) (.bool false) <| wn ?_
  simp only [pu]
  go_upto_region 10 with fail
  refine wl <| gz1 (.int .u8 c) <| gzb (geq_u rfl c 240 dT) <| gz2 (.bool true) (.int .u8 c) <| gzb (lss_u rfl c 245 dF) <|
   gz6 (.bool false) (.bool false) undef undef undef undef <| gz6 (.bool false) (.bool false) undef undef undef undef <| gz6 (.bool false) (.bool false) undef undef undef undef <| gz2 (.bool false) (.bool false) <| wn ?_
  simp only [pu]
  have HE : Hid (r = 0) := by
   refine Lib.hid ?_
   rw [HV.out]
   unfold runN
   try simp only [and_true, and_false, false_and, true_and, if_false, if_true, eq_self, Bool.false_eq_true, reduceCtorEq]
   repeat' split
   all_goals (first | rfl | omega)
  go_upto_region 14 with fail
  refine wl <| gz1 (.int .i64 0) <| wn ?_
  simp only [pu]
  go_wp2_with fail
  go_ret
  rw [HE.out]
  exact ⟨rfl, rfl⟩
end Go.Proofs.Ytglglhcnofbagaa
