/-
  Ints in rows, stores into a block, the numbers that the statements draw from, how long an input is. (Out of stage 7's texts.) Names and memos as lists of numbers; comparisons of bytes, a byte of a string. The reference's Message: contract.
-/
import Derived.Test.YtglglhcnofbagaaGreatK3
import Derived.Laws.Tables
import Derived.Lib.SmallJoins
namespace Go.Proofs.YtglglhcnofbagaaGreat
open Go.RowKit
set_option linter.unusedSimpArgs false
set_option linter.unusedVariables false

/-- The cells of numbers, of elements. -/
def icells (L : List Int) : List Value := L.map (Value.int .i64)
theorem icells_at (L : List Int) (k : Nat) (h : k < L.length) : (icells L)[k]? = some (.int .i64 (L.getD k 0)) := by
  simp [icells, List.getD, List.getElem?_eq_getElem h]
theorem load_cell {w : World} {t : TypeId} {a : Addr} {v : Value} (h : w.cell? a = some v) (hag : (isAgg t).run Tryz.prog w = .ok false w) : (Instr.loadAt t (.pointer (some a))).run Tryz.prog w = .ok v w := by
  simp [Instr.loadAt, Instr.sureAddr, loadVar, hag, run_load, h, Result.andThen]
/-- The list lies in a block. -/
def Bx (w : World) (g : Nat) (cs : Array Value) (t : Nat) : Prop := w.heap[g]? = some (.cells cs t (0, 0))
theorem Bx.lt {w : World} {g t : Nat} {cs : Array Value} (h : Bx w g cs t) : g < w.heap.size := (Array.getElem?_eq_some_iff.1 h).1
theorem Bx.below {w w' : World} {g t B : Nat} {cs : Array Value} (h : Bx w g cs t) (hg : g < B) (hb : Below B w w') : Bx w' g cs t := (hb.block g hg).trans h
theorem Bx.load {w : World} {g t i : Nat} {cs : Array Value} {v : Value} {ty : TypeId} (h : Bx w g cs t) (hv : cs[i]? = some v) (hag : (isAgg ty).run Tryz.prog w = .ok false w) : (Instr.loadAt ty (.pointer (some ⟨g, i, none⟩))).run Tryz.prog w = .ok v w :=
  load_cell ((cell_of_row w g i _ t (0, 0) h).trans hv) hag
theorem idx_int (b off n c k : Nat) (hk : k < n) (V : World) (ρ : Operand → Value) (o : Oper) {x y : Operand} (ho : o.op = .indexAddr 27 x y) (hx : ρ x = .slice (some ⟨b, off, none⟩) n c) (hy : ρ y = .int .i64 k) : (execOp ρ o).run Tryz.prog V = .ok (.value (.pointer (some ⟨b, off + k, none⟩))) V := by
  have hs : (sizeOf (Tryz.prog.elem 27)).run Tryz.prog V = .ok 1 V := by kernel_rfl
  have hlm : (k : Int) < (n : Int) := by omega
  unfold execOp
  simp only [ho, hx, hy]
  go_simp
theorem int_at {w : World} {a : Option Addr} {L : List Int} (h : Cs w a (icells L)) {k : Nat} (hk : k < L.length) : ∃ b off, a = some ⟨b, off, none⟩ ∧ b < w.heap.size ∧ w.cell? ⟨b, off + k, none⟩ = some (.int .i64 (L.getD k 0)) := h _ _ (icells_at L k hk)
theorem belowRow {w w0 : World} {g B : Nat} (h : Below B w0 w) (hn : B ≤ g) (cs : Array Value) : Below B w0 (w.setRow g cs) :=
  ⟨h.os, h.tape, h.output, by rw [size_setRow]; exact h.size, fun k hk => (setRow_other w g k cs (by omega)).trans (h.block k hk)⟩
/-- The world has new blocks, and block g is written. -/
def But (g : Nat) (w w' : World) : Prop := Below g w w' ∧ ∀ k, k < w.heap.size → k ≠ g → w'.heap[k]? = w.heap[k]?
theorem But.refl (g : Nat) (w : World) : But g w w := ⟨Below.refl _ _, fun _ _ _ => rfl⟩
theorem But.trans {g : Nat} {a b c : World} (h : But g a b) (k : But g b c) : But g a c :=
  ⟨h.1.trans k.1, fun i hi hn => (k.2 i (by have := h.1.size; omega) hn).trans (h.2 i hi hn)⟩
theorem But.of_below {g : Nat} {w w' : World} (h : Below w.heap.size w w') (hg : g ≤ w.heap.size) : But g w w' := ⟨h.mono hg, fun k hk _ => h.block k hk⟩
theorem But.setRow {g : Nat} (w : World) (cs : Array Value) : But g w (w.setRow g cs) :=
  ⟨belowRow (Below.refl _ _) (Nat.le_refl _) cs, fun k _ hn => setRow_other w g k cs hn⟩
theorem But.below {g B : Nat} {w w' : World} (h : But g w w') (hB : B ≤ g) : Below B w w' := h.1.mono hB
theorem Bx.but {w w' : World} {g k t : Nat} {cs : Array Value} (h : Bx w k cs t) (hb : But g w w') (hn : k ≠ g) : Bx w' k cs t := (hb.2 k h.lt hn).trans h
theorem Bx.set {w : World} {g t : Nat} {cs cs' : Array Value} (h : Bx w g cs t) : Bx (w.setRow g cs') g cs' t := setRow_heap _ _ _ _ _ _ h
/-- A row whose block is not g. -/
theorem Cs.but {w w' : World} {g : Nat} {a : Option Addr} {cs : List Value} (h : Cs w a cs) (hb : But g w w') (hn : ∀ x, a = some x → x.block ≠ g) : Cs w' a cs := fun j v hj => by
  obtain ⟨b, off, e, hlt, hc⟩ := h j v hj
  refine ⟨b, off, e, Nat.lt_of_lt_of_le hlt hb.1.size, ?_⟩
  rw [← hc]
  unfold World.cell?
  rw [hb.2 b hlt (hn _ e)]
theorem own_but {w w' : World} {g B e size n : Nat} {v : Value} {xs : List Value} (h : w.ownsRow B e size v n xs) (hb : But g w w') (hn : g < B) : w'.ownsRow B e size v n xs := by
  refine ⟨h.1, ?_⟩
  rcases h.2 with h0 | ⟨k, cap, cur, ev, hB, hg, r⟩
  · exact .inl h0
  · exact .inr ⟨k, cap, cur, ev, hB, (hb.2 k (Array.getElem?_eq_some_iff.1 hg).1 (by omega)).trans hg, r⟩
theorem run_store_cell {w : World} {g t i : Nat} {cs : Array Value} {v : Value} {ty : TypeId} (h : Bx w g cs t) (hi : i < cs.size) (h1 : v.oneCell' = true) (hs : (Tryz.prog.info? ty).map (·.size) = some 1) :
    (Instr.storeAt ty (.pointer (some ⟨g, i, none⟩)) v).run Tryz.prog w = .ok () (w.setCell ⟨g, i, none⟩ v) := by
  have hc : v.cells = #[v] := by cases v <;> first | rfl | cases h1
  have hcell : w.cell? ⟨g, i, none⟩ = some cs[i] := by rw [cell_of_row w g i _ t (0, 0) h]; simp [hi]
  have hfz : w.frozen? ⟨g, i, none⟩ = false := frozen_of_row w g i _ t h
  have ha : (⟨g, i, none⟩ : Addr).add 0 = ⟨g, i, none⟩ := by simp [Addr.add]
  cases hq : Tryz.prog.info? ty with
  | none => simp [hq] at hs
  | some j =>
    have hs : j.size = 1 := by simpa [hq] using hs
    simp [Instr.storeAt, Instr.sureAddr, storeVar, sizeOf, typeInfo, hq, hc, hs, storeCells, run_store _ _ _ _ _ h1, ha, hcell, hfz]
theorem But.setCell {g : Nat} (w : World) (o : Nat) (v : Value) : But g w (w.setCell ⟨g, o, none⟩ v) :=
  ⟨(Below.refl g w).setCell (Nat.le_refl _) v, fun k _ hn => heap_setCell_other w _ k v hn⟩
theorem Bx.setC {w : World} {g t i : Nat} {cs : Array Value} (h : Bx w g cs t) (v : Value) : Bx (w.setCell ⟨g, i, none⟩ v) g (cs.setIfInBounds i v) t := Joins.block_setCell h v
theorem run_store_all {w : World} {g t : Nat} {cs cs' : Array Value} {ty : TypeId} (h : Bx w g cs t) (hz : cs.size = cs'.size) (h1 : cs'.all (·.oneCell') = true) (hs : (Tryz.prog.info? ty).map (·.size) = some cs'.size) :
    (Instr.storeAt ty (.pointer (some ⟨g, 0, none⟩)) (.agg cs')).run Tryz.prog w = .ok () (w.setRow g cs') := by
  simp only [Instr.storeAt, Instr.sureAddr, Sem.run_bind, Sem.run_pure, Result.andThen_ok]
  exact run_storeVar_row w g t ty cs cs' h hs hz h1
section
variable {P : Program} {ops : Array Oper} {rest : List Oper} {o : Oper} {a : Act} {w : World} {Q : Exit → Act → World → Prop} {i : Nat} {K : Act → World → Prop}
theorem gw_store (hw : Region.wanted o (yielded ops a.tmps) = true) (hd : o.dst = none) (ty : TypeId) (x y : Operand) (ho : o.op = .store ty x y) (vx vy : Value) (hx : a.eval x = vx) (hy : a.eval y = vy) (w2 : World)
    (hr : (Instr.storeAt ty vx vy).run P w = .ok () w2) (k : wpList P ops Q rest a w2) : wpList P ops Q (o :: rest) a w := by
  apply wpList_step
  intro K hK
  rw [if_pos hw]
  unfold Oper.wp execOp
  simp only [ho, hx, hy, Sem.run_bind, hr, Result.andThen_ok]
  show K (a.put o.dst undef) _
  rw [hd]
  exact hK _ _ k
theorem gzs {ty : TypeId} {x y : Operand} (ho : o.op = .store ty x y) {vx vy : Value} {w2 : World} (hr : (Instr.storeAt ty vx vy).run P w = .ok () w2) (k : wpList P ops Q rest a w2) (hw : Region.wanted o (yielded ops a.tmps) = true := by kernel_rfl) (hd : o.dst = none := by kernel_rfl) (hx : a.eval x = vx := by kernel_rfl) (hy : a.eval y = vy := by kernel_rfl) : wpList P ops Q (o :: rest) a w := gw_store hw hd ty x y ho vx vy hx hy w2 hr k
theorem st_storeA (hi : ops[i]? = some o) (hw : Region.wanted o (yielded ops a.tmps) = true) (hd : o.dst = none) (ty : TypeId) (x y : Operand) (ho : o.op = .store ty x y) (vx vy : Value) (hx : a.eval x = vx) (hy : a.eval y = vy) (w2 : World)
    (hr : (Instr.storeAt ty vx vy).run P w = .ok () w2) (h : K a w2) : wpOp P ops Q i K a w := by
  refine st_of hi hw ?_
  unfold Oper.wp execOp
  simp only [ho, hx, hy, Sem.run_bind, hr, Result.andThen_ok]
  show K (a.put o.dst undef) _
  rw [hd]
  exact h
end
/-- A number from 0 to below n that depends on any number. -/
def pl (x n : Int) : Int := if x.tmod n < 0 then x.tmod n + n else x.tmod n
theorem tmod_range (x n : Int) (hn : 0 < n) : -n < x.tmod n ∧ x.tmod n < n := by
  rcases Int.le_total 0 x with h | h
  · have h1 := Int.tmod_nonneg n h
    have h2 := Int.tmod_lt_of_pos x hn
    omega
  · have h1 := Int.tmod_nonneg n (show 0 ≤ -x by omega)
    have h2 := Int.tmod_lt_of_pos (-x) hn
    rw [Int.neg_tmod] at h1 h2
    omega
theorem pl_range (x n : Int) (hn : 0 < n) : 0 ≤ pl x n ∧ pl x n < n := by
  have := tmod_range x n hn
  unfold pl
  split <;> omega
theorem rem_i64 {ρ : Operand → Value} {o : Oper} {x y : Operand} (ho : o.op = .binOp .rem 3 x y 3) (a b : Int) (hb : b ≠ 0) (hx : ρ x = .int .i64 a) (hy : ρ y = .int .i64 b) (w : World) :
    (execOp ρ o).run Tryz.prog w = .ok (.value (.int .i64 (a.tmod b))) w := by
  unfold execOp
  simp only [ho, hx, hy]
  simp [hb, go_sem]
set_option maxHeartbeats 1000000 in
theorem mk_place (x n : Int) (w : World) (hn : 0 < n) (hn2 : n ≤ 1000000) :
    Calls Tryz.prog 18 #[.int .i64 x, .int .i64 n] w fun e w' => e = .returned (.int .i64 (pl x n)) ∧ w = w' := by
  have hr := tmod_range x n hn
  have hnz : ¬ n = 0 := by omega
  unfold pl
  obtain ⟨r, hr0⟩ : ∃ r, x.tmod n = r := ⟨_, rfl⟩
  have hw : IntKind.i64.wrap r = r := by rw [IntKind.wrap_i64]; omega
  rw [hr0] at hr ⊢
  have HR := Lib.hid hr0
  clear hr0
  obtain ⟨Q, hQ⟩ : ∃ Q, Q = if r < 0 then r + n else r := ⟨_, rfl⟩
  rw [← hQ]
  have HQ := Lib.hid hQ
  clear hQ
  go_enter Tryz.func18, Tryz.ntmps18
  go_upto_region 1 with fail
  apply wp_region_lit
  refine gw_val (by kernel_rfl) (some 5) rfl (.int .i64 x) (by kernel_rfl) ?_
  simp only [pu1, pu2, pu3, pu4]
  refine gw_val (by kernel_rfl) (some 6) rfl (.int .i64 n) (by kernel_rfl) ?_
  simp only [pu1, pu2, pu3, pu4]
  refine gw_val (by kernel_rfl) (some 7) rfl (.int .i64 (x.tmod n)) (rem_i64 rfl x n hnz (by kernel_rfl) (by kernel_rfl) w) ?_
  rw [HR.out]
  simp only [pu1, pu2, pu3, pu4]
  refine gw_val (by kernel_rfl) (some 0) rfl (.int .i64 r) (by kernel_rfl) ?_
  simp only [pu1, pu2, pu3, pu4]
  apply wpList_nil
  by_cases h0 : r < 0
  · have hd : decide (r < 0) = true := decide_eq_true h0
    have HQ2 : Hid (Q = r + n) := Lib.hid (by rw [HQ.out, if_pos h0])
    have hw3 : IntKind.i64.wrap (r + n) = r + n := by rw [IntKind.wrap_i64]; omega
    clear HQ HR
    go_wp2_with fail
    go_ret
    exact ⟨by rw [HQ2.out]; rfl, rfl⟩
  · have hd : decide (r < 0) = false := decide_eq_false h0
    have HQ2 : Hid (Q = r) := Lib.hid (by rw [HQ.out, if_neg h0])
    clear HQ HR
    go_wp2_with fail
    go_ret
    exact ⟨by rw [HQ2.out]; rfl, rfl⟩
set_option maxHeartbeats 1000000 in
theorem mk_from (a : Option Addr) (n c : Nat) (w : World) : Calls Tryz.prog 25 #[.slice a n c] w fun e w' => e = .returned (.pointer (some ⟨w.heap.size, 0, none⟩)) ∧ w' = w.alloc (.cells #[.slice a n c, .int .i64 0] 94) := by
  go_enter Tryz.func25, Tryz.ntmps25
  go_upto_region 1 with fail
  apply wp_region_lit
  refine gw_val (by kernel_rfl) (some 3) rfl (.slice a n c) (by kernel_rfl) ?_
  simp only [pu1, pu2, pu3, pu4]
  refine gw_val (by kernel_rfl) (some 4) rfl (.agg #[.slice a n c, .int .i64 0]) (by kernel_rfl) ?_
  simp only [pu1, pu2, pu3, pu4]
  refine run_to rfl (some 5) rfl (.pointer (some ⟨w.heap.size, 0, none⟩)) (w.alloc (.cells #[.slice a n c, .int .i64 0] 94)) (by kernel_rfl) ?_
  simp only [pu1, pu2, pu3, pu4]
  refine gw_val (by kernel_rfl) (some 2) rfl (.pointer (some ⟨w.heap.size, 0, none⟩)) (by kernel_rfl) ?_
  simp only [pu1, pu2, pu3, pu4]
  apply wpList_nil
  go_wp2_with fail
  go_ret
  exact ⟨rfl, rfl⟩
theorem add_one {ρ : Operand → Value} {o : Oper} {x : Operand} (ho : o.op = .binOp .add 3 x (.const (.int .i64 1)) 3) (m : Nat) (hm : m ≤ 1000000) (hx : ρ x = .int .i64 m) (w : World) (hρ : ρ (.const (.int .i64 1)) = .int .i64 1 := by rfl) : (execOp ρ o).run Tryz.prog w = .ok (.value (.int .i64 (m + 1 : Nat))) w := by
  unfold execOp
  simp only [ho, hx, hρ]
  simp [go_sem]
  rw [IntKind.wrap_i64]
  omega
theorem lt_nat {ρ : Operand → Value} {o : Oper} {x y : Operand} (ho : o.op = .binOp .lss 3 x y 3) (a b : Nat) (hx : ρ x = .int .i64 a) (hy : ρ y = .int .i64 b) (w : World) : (execOp ρ o).run Tryz.prog w = .ok (.value (.bool (decide (a < b)))) w := by
  unfold execOp
  simp only [ho, hx, hy]
  simp [go_sem]
set_option maxRecDepth 100000 in
set_option maxHeartbeats 2000000 in
theorem mk_next (g : Nat) (L : List Int) (a : Option Addr) (c N : Nat) (n : Int) (w : World) (hX : Bx w g #[.slice a L.length c, .int .i64 N] 94) (hL : Cs w a (icells L)) (hl : L.length ≤ 100000) (hN : N ≤ 100000) (hn : 0 < n) (hn2 : n ≤ 1000000) :
    Calls Tryz.prog 23 #[.pointer (some ⟨g, 0, none⟩), .int .i64 n] w fun e w' => e = .returned (.int .i64 (pl (L.getD N 0) n)) ∧ But g w w' ∧ Bx w' g #[.slice a L.length c, .int .i64 (N + 1 : Nat)] 94 := by
  have CP := fun x V => mk_place x n V hn hn2
  have tail : ∀ (V : World) (x : Int), x = L.getD N 0 → But g w V → Bx V g #[.slice a L.length c, .int .i64 N] 94 → True := fun _ _ _ _ _ => trivial
  by_cases hlt : N < L.length
  · obtain ⟨b, off, rfl, hb, hc⟩ := int_at hL hlt
    have hd : decide (N < L.length) = true := decide_eq_true hlt
    obtain ⟨x, hx⟩ : ∃ x, L.getD N 0 = x := ⟨_, rfl⟩
    rw [hx] at hc ⊢
    generalize L.length = k at *
    clear hx hL tail
    go_enter Tryz.func23, Tryz.ntmps23
    go_upto_region 2 with fail
    refine wp_region_class (C := fun w' => Below w.heap.size w w') (by kernel_rfl) (by kernel_rfl) (Below.refl _ w).drew ?_
    refine gyv (.pointer (some ⟨g, 0, none⟩)) (fun w' _ => by kernel_rfl) <| gyv (.pointer (some ⟨g, 0, none⟩)) (fun w' _ => by kernel_rfl) <| gyv (.pointer (some ⟨g, 1, none⟩)) (fun w' _ => by kernel_rfl) <|
      gyl rfl ⟨g, 1, none⟩ (.int .i64 N) (fun w' hC => (hX.below hX.lt hC).load rfl (by kernel_rfl)) <| gyv (.pointer (some ⟨g, 0, none⟩)) (fun w' _ => by kernel_rfl) <| gyv (.pointer (some ⟨g, 0, none⟩)) (fun w' _ => by kernel_rfl) <| gyv (.pointer (some ⟨g, 0, none⟩)) (fun w' _ => by kernel_rfl) <|
      gyl rfl ⟨g, 0, none⟩ (.slice (some ⟨b, off, none⟩) k c) (fun w' hC => (hX.below hX.lt hC).load rfl (by kernel_rfl)) <| gyv (.int .i64 k) (fun w' _ => by kernel_rfl) <| gyv (.bool (decide (N < k))) (fun w' _ => lt_nat rfl N k (by kernel_rfl) (by kernel_rfl) w') ?_
    rw [hd]
    simp only [pu1, pu2, pu3, pu4]
    refine wpQuiet_nil ?_
    intro V hV
    have hXV := hX.below hX.lt hV
    have hcV := (hV.cell (p := ⟨b, off + N, none⟩) hb).trans hc
    have hbV := Nat.lt_of_lt_of_le hb hV.size
    go_upto_region 3 with fail
    refine wp_region_class (C := fun w' => Below V.heap.size V w') (by kernel_rfl) (by kernel_rfl) (Below.refl _ V).drew ?_
    refine gyv (.pointer (some ⟨g, 0, none⟩)) (fun w' _ => by kernel_rfl) <| gyv (.pointer (some ⟨g, 0, none⟩)) (fun w' _ => by kernel_rfl) <| gyv (.pointer (some ⟨g, 0, none⟩)) (fun w' _ => by kernel_rfl) <|
      gyl rfl ⟨g, 0, none⟩ (.slice (some ⟨b, off, none⟩) k c) (fun w' hC => (hXV.below hXV.lt hC).load rfl (by kernel_rfl)) <| gyv (.pointer (some ⟨g, 0, none⟩)) (fun w' _ => by kernel_rfl) <| gyv (.pointer (some ⟨g, 0, none⟩)) (fun w' _ => by kernel_rfl) <|
      gyv (.pointer (some ⟨g, 1, none⟩)) (fun w' _ => by kernel_rfl) <| gyl rfl ⟨g, 1, none⟩ (.int .i64 N) (fun w' hC => (hXV.below hXV.lt hC).load rfl (by kernel_rfl)) <| gyv (.pointer (some ⟨b, off + N, none⟩)) (fun w' _ => idx_int b off k c N hlt w' _ _ rfl (by kernel_rfl) (by kernel_rfl)) <|
      gyl rfl ⟨b, off + N, none⟩ (.int .i64 x) (fun w' hC => load_cell ((hC.cell (p := ⟨b, off + N, none⟩) hbV).trans hcV) (by kernel_rfl)) <| gyv (.int .i64 x) (fun w' _ => by kernel_rfl) ?_
    simp only [pu]
    refine wpQuiet_nil ?_
    intro V2 hV2
    have hX2 := hXV.below hXV.lt hV2
    have hB2 := hV.trans (hV2.mono hV.size)
    clear hXV hcV hbV hV hV2 hc hb
    go_upto_region 4 with fail
    apply wp_region_lit
    refine gw_val (by kernel_rfl) (some 26) rfl (.pointer (some ⟨g, 0, none⟩)) (by kernel_rfl) ?_
    simp only [pu1, pu2, pu3, pu4]
    refine gw_val (by kernel_rfl) (some 27) rfl (.pointer (some ⟨g, 0, none⟩)) (by kernel_rfl) ?_
    simp only [pu1, pu2, pu3, pu4]
    refine gw_val (by kernel_rfl) (some 28) rfl (.pointer (some ⟨g, 1, none⟩)) (by kernel_rfl) ?_
    simp only [pu1, pu2, pu3, pu4]
    refine gw_load (by kernel_rfl) (some 29) rfl 3 (.tmp 28) rfl ⟨g, 1, none⟩ (.int .i64 N) (by kernel_rfl) (hX2.load rfl (by kernel_rfl)) ?_
    simp only [pu1, pu2, pu3, pu4]
    refine gw_val (by kernel_rfl) (some 30) rfl (.int .i64 (N + 1 : Nat)) (add_one rfl N (by omega) (by kernel_rfl) V2) ?_
    simp only [pu1, pu2, pu3, pu4]
    refine gw_val (by kernel_rfl) (some 31) rfl (.pointer (some ⟨g, 0, none⟩)) (by kernel_rfl) ?_
    simp only [pu1, pu2, pu3, pu4]
    refine gw_val (by kernel_rfl) (some 32) rfl (.pointer (some ⟨g, 1, none⟩)) (by kernel_rfl) ?_
    simp only [pu1, pu2, pu3, pu4]
    refine gw_store (by kernel_rfl) rfl 3 (.tmp 32) (.tmp 30) rfl (.pointer (some ⟨g, 1, none⟩)) (.int .i64 (N + 1 : Nat)) (by kernel_rfl) (by kernel_rfl) _ (run_store_cell hX2 (by simp) rfl (by kernel_rfl)) ?_
    apply wpList_nil
    have hX3 : Bx (V2.setCell ⟨g, 1, none⟩ (.int .i64 (N + 1 : Nat))) g #[.slice (some ⟨b, off, none⟩) k c, .int .i64 (N + 1 : Nat)] 94 := hX2.setC _
    have hB3 := (But.of_below hB2 (Nat.le_of_lt hX.lt)).trans (But.setCell (g := g) V2 1 (.int .i64 (N + 1 : Nat)))
    generalize V2.setCell ⟨g, 1, none⟩ (.int .i64 (N + 1 : Nat)) = V3 at *
    have HX3 := Lib.hid hX3
    have HB3 := Lib.hid hB3
    clear hX2 hB2 hX3 hB3 hX
    go_wp2_with (go_at_call 18; refine (CP _ _).mono ?_; rintro e w9 ⟨rfl, rfl⟩)
    go_ret
    exact ⟨rfl, HB3.out, HX3.out⟩
  · have hd : decide (N < L.length) = false := decide_eq_false hlt
    have hx : L.getD N 0 = 0 := by simp [List.getD, List.getElem?_eq_none (show L.length ≤ N by omega)]
    rw [hx]
    generalize L.length = k at *
    obtain ⟨x, hx0⟩ : ∃ x : Int, x = 0 := ⟨_, rfl⟩
    clear hx hL tail
    go_enter Tryz.func23, Tryz.ntmps23
    go_upto_region 2 with fail
    refine wp_region_class (C := fun w' => Below w.heap.size w w') (by kernel_rfl) (by kernel_rfl) (Below.refl _ w).drew ?_
    refine gyv (.pointer (some ⟨g, 0, none⟩)) (fun w' _ => by kernel_rfl) <| gyv (.pointer (some ⟨g, 0, none⟩)) (fun w' _ => by kernel_rfl) <| gyv (.pointer (some ⟨g, 1, none⟩)) (fun w' _ => by kernel_rfl) <|
      gyl rfl ⟨g, 1, none⟩ (.int .i64 N) (fun w' hC => (hX.below hX.lt hC).load rfl (by kernel_rfl)) <| gyv (.pointer (some ⟨g, 0, none⟩)) (fun w' _ => by kernel_rfl) <| gyv (.pointer (some ⟨g, 0, none⟩)) (fun w' _ => by kernel_rfl) <| gyv (.pointer (some ⟨g, 0, none⟩)) (fun w' _ => by kernel_rfl) <|
      gyl rfl ⟨g, 0, none⟩ (.slice a k c) (fun w' hC => (hX.below hX.lt hC).load rfl (by kernel_rfl)) <| gyv (.int .i64 k) (fun w' _ => by kernel_rfl) <| gyv (.bool (decide (N < k))) (fun w' _ => lt_nat rfl N k (by kernel_rfl) (by kernel_rfl) w') ?_
    rw [hd]
    simp only [pu1, pu2, pu3, pu4]
    refine wpQuiet_nil ?_
    intro V2 hB2
    have hX2 := hX.below hX.lt hB2
    rw [← hx0]
    go_upto_region 4 with fail
    apply wp_region_lit
    refine gw_val (by kernel_rfl) (some 26) rfl (.pointer (some ⟨g, 0, none⟩)) (by kernel_rfl) ?_
    simp only [pu1, pu2, pu3, pu4]
    refine gw_val (by kernel_rfl) (some 27) rfl (.pointer (some ⟨g, 0, none⟩)) (by kernel_rfl) ?_
    simp only [pu1, pu2, pu3, pu4]
    refine gw_val (by kernel_rfl) (some 28) rfl (.pointer (some ⟨g, 1, none⟩)) (by kernel_rfl) ?_
    simp only [pu1, pu2, pu3, pu4]
    refine gw_load (by kernel_rfl) (some 29) rfl 3 (.tmp 28) rfl ⟨g, 1, none⟩ (.int .i64 N) (by kernel_rfl) (hX2.load rfl (by kernel_rfl)) ?_
    simp only [pu1, pu2, pu3, pu4]
    refine gw_val (by kernel_rfl) (some 30) rfl (.int .i64 (N + 1 : Nat)) (add_one rfl N (by omega) (by kernel_rfl) V2) ?_
    simp only [pu1, pu2, pu3, pu4]
    refine gw_val (by kernel_rfl) (some 31) rfl (.pointer (some ⟨g, 0, none⟩)) (by kernel_rfl) ?_
    simp only [pu1, pu2, pu3, pu4]
    refine gw_val (by kernel_rfl) (some 32) rfl (.pointer (some ⟨g, 1, none⟩)) (by kernel_rfl) ?_
    simp only [pu1, pu2, pu3, pu4]
    refine gw_store (by kernel_rfl) rfl 3 (.tmp 32) (.tmp 30) rfl (.pointer (some ⟨g, 1, none⟩)) (.int .i64 (N + 1 : Nat)) (by kernel_rfl) (by kernel_rfl) _ (run_store_cell hX2 (by simp) rfl (by kernel_rfl)) ?_
    apply wpList_nil
    have hX3 : Bx (V2.setCell ⟨g, 1, none⟩ (.int .i64 (N + 1 : Nat))) g #[.slice a k c, .int .i64 (N + 1 : Nat)] 94 := hX2.setC _
    have hB3 := (But.of_below hB2 (Nat.le_of_lt hX.lt)).trans (But.setCell (g := g) V2 1 (.int .i64 (N + 1 : Nat)))
    generalize V2.setCell ⟨g, 1, none⟩ (.int .i64 (N + 1 : Nat)) = V3 at *
    have HX3 := Lib.hid hX3
    have HB3 := Lib.hid hB3
    clear hX2 hB2 hX3 hB3 hX
    go_wp2_with (go_at_call 18; refine (CP _ _).mono ?_; rintro e w9 ⟨rfl, rfl⟩)
    go_ret
    exact ⟨rfl, HB3.out, HX3.out⟩
theorem idx_row (b off n c k : Nat) (hk : k < n) (V : World) (ρ : Operand → Value) (o : Oper) {x y : Operand} (ho : o.op = .indexAddr 67 x y) (hx : ρ x = .slice (some ⟨b, off, none⟩) n c) (hy : ρ y = .int .i64 k) : (execOp ρ o).run Tryz.prog V = .ok (.value (.pointer (some ⟨b, off + k, none⟩))) V := by
  have hs : (sizeOf (Tryz.prog.elem 67)).run Tryz.prog V = .ok 1 V := by kernel_rfl
  have hlm : (k : Int) < (n : Int) := by omega
  unfold execOp
  simp only [ho, hx, hy]
  go_simp
theorem infoS : (Tryz.prog.info? 27).map (fun i => (i.zero, i.size, i.bytes)) = some (some (.slice none 0 0), 1, 24) := by kernel_rfl
theorem one_row (a : Option Addr) (n c : Nat) (w : World) : (Instr.buildSlice 67 1 #[(0, .slice a n c)]).run Tryz.prog w = .ok (.slice (some ⟨w.heap.size, 0, none⟩) 1 1) (w.alloc (.cells #[.slice a n c] 27)) := by
  obtain ⟨i0, hi, hz0, hz1, hz2⟩ := info_parts infoS
  refine run_buildSlice w 67 27 1 _ #[.slice a n c] i0 _ Tryz.underlying67 hi hz0 (by rw [hz1]; omega) (by rw [hz1]; omega) ?_
  rw [hz1]
  kernel_rfl
theorem add_nat {ρ : Operand → Value} {o : Oper} {x y : Operand} (ho : o.op = .binOp .add 3 x y 3) (a b : Nat) (h : a + b ≤ 9223372036854775807) (hx : ρ x = .int .i64 a) (hy : ρ y = .int .i64 b) (w : World) : (execOp ρ o).run Tryz.prog w = .ok (.value (.int .i64 (a + b : Nat))) w := by
  unfold execOp
  simp only [ho, hx, hy]
  simp [go_sem]
  rw [IntKind.wrap_i64]
  omega
set_option maxRecDepth 100000 in
set_option maxHeartbeats 2000000 in
theorem long_one (g : Nat) (a : Option Addr) (n c : Nat) (w : World) (hX : Bx w g #[.slice a n c] 27) (hn : n ≤ 9223372036854775807) : Calls Tryz.prog 7 #[.slice (some ⟨g, 0, none⟩) 1 1] w fun e w' => e = .returned (.bool (decide ((160 : Int) < (n : Int)))) ∧ w = w' := by
  have hl : (Instr.loadAt 27 (.pointer (some ⟨g, 0, none⟩))).run Tryz.prog w = .ok (.slice a n c) w := hX.load rfl (by kernel_rfl)
  clear hX
  go_enter Tryz.func7, Tryz.ntmps7
  go_wp2_with fail
  go_loopg [3, 8] 1 (fun gg s3 s8 wx => ((s3 = .int .i64 (0 : Nat) ∧ s8 = .int .i64 (0 : Nat) ∧ gg = 1) ∨ (s3 = .int .i64 (n : Nat) ∧ s8 = .int .i64 (1 : Nat) ∧ gg = 0)) ∧ w = wx)
  case atStart => exact ⟨.inl ⟨rfl, rfl, rfl⟩, rfl⟩
  case round =>
    obtain ⟨⟨rfl, rfl, rfl⟩ | ⟨rfl, rfl, rfl⟩, rfl⟩ := hrel
    · go_upto_region 4 with fail
      apply wp_region_lit
      refine gw_val (by kernel_rfl) (some 10) rfl (.pointer (some ⟨g, 0, none⟩)) (idx_row g 0 1 1 0 (by omega) w _ _ rfl (by kernel_rfl) (by kernel_rfl)) ?_
      simp only [pu1, pu2, pu3, pu4]
      refine gw_load (by kernel_rfl) (some 11) rfl 27 (.tmp 10) rfl ⟨g, 0, none⟩ (.slice a n c) (by kernel_rfl) (hl) ?_
      simp only [pu1, pu2, pu3, pu4]
      refine gw_val (by kernel_rfl) (some 5) rfl (.slice a n c) (by kernel_rfl) ?_
      simp only [pu1, pu2, pu3, pu4]
      apply wpList_nil
      go_upto_region 5 with fail
      apply wp_region_lit
      refine gw_val (by kernel_rfl) (some 12) rfl (.int .i64 (0 : Nat)) (by kernel_rfl) ?_
      simp only [pu1, pu2, pu3, pu4]
      refine gw_val (by kernel_rfl) (some 13) rfl (.slice a n c) (by kernel_rfl) ?_
      simp only [pu1, pu2, pu3, pu4]
      refine gw_val (by kernel_rfl) (some 14) rfl (.int .i64 n) (by kernel_rfl) ?_
      simp only [pu1, pu2, pu3, pu4]
      refine gw_val (by kernel_rfl) (some 15) rfl (.int .i64 (0 + n : Nat)) (add_nat rfl 0 n (by omega) (by kernel_rfl) (by kernel_rfl) w) ?_
      rw [Nat.zero_add]
      simp only [pu1, pu2, pu3, pu4]
      refine gw_val (by kernel_rfl) (some 3) rfl (.int .i64 n) (by kernel_rfl) ?_
      simp only [pu1, pu2, pu3, pu4]
      apply wpList_nil
      clear hl
      go_wp2_with fail
      go_roundg 0
      case measure => omega
      case rel => exact ⟨.inr ⟨rfl, rfl, rfl⟩, rfl⟩
    · clear hl
      go_wp2_with fail
      go_ret
      exact ⟨rfl, rfl⟩
end Go.Proofs.YtglglhcnofbagaaGreat
namespace Go.Proofs.YtglglhcnofbagaaGreat
open Go.RowKit
set_option linter.unusedSimpArgs false
set_option linter.unusedVariables false

theorem run_four {c0 c1 : Int} {f1 f2 f3 : Bool} (h : runN c0 c1 f1 f2 f3 = 4) : ((((240 ≤ c0 ∧ c0 < 245) ∧ f1 = true) ∧ f2 = true) ∧ f3 = true) ∧ ¬ ((c0 = 240 ∧ c1 < 144) ∨ (c0 = 244 ∧ 144 ≤ c1)) := by
 unfold runN at h
 split at h
 ·omega
 split at h
 ·omega
 split at h
 ·split at h <;> omega
 split at h
 ·rename_i h4
  split at h
  ·omega
  ·rename_i h5
   exact ⟨h4, h5⟩
 ·omega
theorem run_fffd {L : List Int} {i : Nat} (hb : ∀ j, 0 ≤ L.getD j 0 ∧ L.getD j 0 < 256) (h : runK L i ≠ 0) (e : runV L i = 65533) : runK L i = 3 := by
 have h4 := run_le L i
 have g0 := hb i
 have g1 := hb (i + 1)
 rcases (show runK L i = 1 ∨ runK L i = 2 ∨ runK L i = 3 ∨ runK L i = 4 by omega) with k | k | k | k
 ·unfold runV at e
  rw [k] at e
  simp only [valN, if_true] at e
  omega
 ·unfold runV at e
  rw [k] at e
  have e2 : (L.getD i 0 - 192) * 64 + (L.getD (i + 1) 0 - 128) = 65533 := e
  omega
 ·exact k
 ·have q := run_four k
  have h1 := fol_rng q.1.1.1.2
  have h2 := fol_rng q.1.1.2
  have h3 := fol_rng q.1.2
  unfold runV at e
  rw [k] at e
  have e2 : (L.getD i 0 - 240) * 262144 + (L.getD (i + 1) 0 - 128) * 4096 + (L.getD (i + 2) 0 - 128) * 64 + (L.getD (i + 3) 0 - 128) = 65533 := e
  omega
/-- How many runes from a place on; none if it is not UTF-8. -/
def runs (L : List Int) (i : Nat) : Option Nat :=
 if h : i < L.length then (if runK L i = 0 then none else (runs L (i + runK L i)).map (· + 1)) else some 0
termination_by L.length - i
decreasing_by omega
def nmB (c : Int) : Bool := (decide (97 ≤ c) && decide (c ≤ 122)) || (decide (48 ≤ c) && decide (c ≤ 57)) || decide (c = 45)
def isName (L : List Int) : Bool := L.all nmB && (decide (1 ≤ L.length) && decide (L.length ≤ 20))
def isMemo (L : List Int) : Bool := match runs L 0 with
 | none => false
 | some n => decide (n ≤ 64)
theorem all_no {L : List Int} {i : Nat} (h : i < L.length) (hb : nmB (L.getD i 0) = false) : isName L = false := by
 unfold isName
 have : L.all nmB = false := by
  rw [List.all_eq_false]
  exact ⟨L.getD i 0, by rw [List.getD_eq_getElem?_getD, List.getElem?_eq_getElem h]; exact List.getElem_mem h, by rw [hb]; simp⟩
 rw [this]
 rfl
theorem all_yes {L : List Int} (h : ∀ j, j < L.length → nmB (L.getD j 0) = true) : L.all nmB = true := by
 rw [List.all_eq_true]
 intro x hx
 obtain ⟨j, hj, rfl⟩ := List.mem_iff_getElem.1 hx
 have := h j hj
 rwa [List.getD_eq_getElem?_getD, List.getElem?_eq_getElem hj] at this
section
variable {ρ : Operand → Value} {o : Oper} {x y : Operand}
theorem ex_index (s : ByteArray) (i : Nat) (h : i < s.size) (ho : o.op = .index 9 x y) (hx : ρ x = .string s) (hy : ρ y = .int .i64 i) (w : World) : (execOp ρ o).run Tryz.prog w = .ok (.value (.int .u8 ((nums s).getD i 0))) w := by
 unfold execOp
 simp only [ho, hx, hy, Sem.run_bind, str_index s i h w]
 rfl
theorem geq_u (ho : o.op = .binOp .geq 5 x y 5) (a b : Int) {t : Bool} (ht : decide (b ≤ a) = t) (hx : ρ x = .int .u8 a) (hy : ρ y = .int .u8 b) (w : World) : (execOp ρ o).run Tryz.prog w = .ok (.value (.bool t)) w := by
 rw [← ht]
 unfold execOp
 simp only [ho, hx, hy]
 go_simp
theorem leq_u (ho : o.op = .binOp .leq 5 x y 5) (a b : Int) {t : Bool} (ht : decide (a ≤ b) = t) (hx : ρ x = .int .u8 a) (hy : ρ y = .int .u8 b) (w : World) : (execOp ρ o).run Tryz.prog w = .ok (.value (.bool t)) w := by
 rw [← ht]
 unfold execOp
 simp only [ho, hx, hy]
 go_simp
theorem lss_u (ho : o.op = .binOp .lss 5 x y 5) (a b : Int) {t : Bool} (ht : decide (a < b) = t) (hx : ρ x = .int .u8 a) (hy : ρ y = .int .u8 b) (w : World) : (execOp ρ o).run Tryz.prog w = .ok (.value (.bool t)) w := by
 rw [← ht]
 unfold execOp
 simp only [ho, hx, hy]
 go_simp
theorem eql_u (ho : o.op = .binOp .eql 5 x y 5) (a b : Int) {t : Bool} (ht : decide (a = b) = t) (hx : ρ x = .int .u8 a) (hy : ρ y = .int .u8 b) (w : World) : (execOp ρ o).run Tryz.prog w = .ok (.value (.bool t)) w := by
 have e : (a == b) = t := ht
 unfold execOp
 simp only [ho, hx, hy]
 go_simp
theorem geq_n (ho : o.op = .binOp .geq 3 x y 3) (a b : Int) {t : Bool} (ht : decide (b ≤ a) = t) (hx : ρ x = .int .i64 a) (hy : ρ y = .int .i64 b) (w : World) : (execOp ρ o).run Tryz.prog w = .ok (.value (.bool t)) w := by
 rw [← ht]
 unfold execOp
 simp only [ho, hx, hy]
 go_simp
theorem leq_n (ho : o.op = .binOp .leq 3 x y 3) (a b : Int) {t : Bool} (ht : decide (a ≤ b) = t) (hx : ρ x = .int .i64 a) (hy : ρ y = .int .i64 b) (w : World) : (execOp ρ o).run Tryz.prog w = .ok (.value (.bool t)) w := by
 rw [← ht]
 unfold execOp
 simp only [ho, hx, hy]
 go_simp
theorem lss_n (ho : o.op = .binOp .lss 3 x y 3) (a b : Int) {t : Bool} (ht : decide (a < b) = t) (hx : ρ x = .int .i64 a) (hy : ρ y = .int .i64 b) (w : World) : (execOp ρ o).run Tryz.prog w = .ok (.value (.bool t)) w := by
 rw [← ht]
 unfold execOp
 simp only [ho, hx, hy]
 go_simp
end
/-- A byte of a string at the operation. -/
def StrAt (s : ByteArray) (i : Nat) (c : Int) : Prop := ∀ (ρ : Operand → Value) (o : Oper) (x y : Operand), o.op = .index 9 x y → ρ x = .string s → ρ y = .int .i64 i → ∀ w, (execOp ρ o).run Tryz.prog w = .ok (.value (.int .u8 c)) w
theorem str_at (s : ByteArray) (i : Nat) (h : i < s.size) : StrAt s i ((nums s).getD i 0) := fun ρ o x y ho hx hy w => ex_index s i h ho hx hy w
end Go.Proofs.YtglglhcnofbagaaGreat
namespace Go.Proofs.YtglglhcnofbagaaGreat
attribute [local irreducible] wpList wpQuiet
open Go.RowKit
set_option linter.unusedSimpArgs false
set_option linter.unusedVariables false

/-- The bytes of a message. -/
def msg (P : List Fld) : List Int := P.flatMap encF
theorem msg_app (P Q : List Fld) : msg (P ++ Q) = msg P ++ msg Q := by simp [msg]
theorem msg_take (P : List Fld) (j : Nat) : (msg (P.take j)).length ≤ (msg P).length := by
 conv => rhs; rw [← List.take_append_drop j P, msg_app, List.length_append]
 omega
theorem encI_len_ge (num kind val : Int) (X : List Int) : X.length ≤ (encI num kind val X).length := by
 unfold encI
 rw [List.length_append, List.length_append]
 omega
abbrev fdA (x : Fld) (b : Option Addr) (d : Nat) : Array Value := #[.int .i64 x.num, .int .i64 x.kind, .int .u64 x.val, .slice b x.bytes.length d]
theorem fd_range {w : World} {g o : Nat} {x : Fld} {b : Option Addr} {d : Nat} (h : Box w g o x.num x.kind x.val b x.bytes.length d) : w.rangeAt g o (fdA x b d).toList := fun j v hj => by
 obtain ⟨h0, h1, h2, h3⟩ := h
 have hj4 : j < 4 := by
  have := (List.getElem?_eq_some_iff.1 hj).1
  simpa using this
 rcases (show j = 0 ∨ j = 1 ∨ j = 2 ∨ j = 3 by omega) with rfl | rfl | rfl | rfl
 ·simp at hj; rw [← hj]; exact h0
 ·simp at hj; rw [← hj]; exact h1
 ·simp at hj; rw [← hj]; exact h2
 ·simp at hj; rw [← hj]; exact h3
theorem load_fd {w : World} {g o : Nat} {x : Fld} {b : Option Addr} {d : Nat} (h : w.rangeAt g o (fdA x b d).toList) : (Instr.loadAt 91 (.pointer (some ⟨g, o, none⟩))).run Tryz.prog w = .ok (.agg (fdA x b d)) w :=
 run_loadAt_mid w g o 91 _ _ h Tryz.underlying91 rfl (by kernel_rfl)
theorem idx_fd (b off n c k : Nat) (hk : k < n) (V : World) (ρ : Operand → Value) (o : Oper) {x y : Operand} (ho : o.op = .indexAddr 86 x y) (hx : ρ x = .slice (some ⟨b, off, none⟩) n c) (hy : ρ y = .int .i64 k) : (execOp ρ o).run Tryz.prog V = .ok (.value (.pointer (some ⟨b, off + k * 4, none⟩))) V := by
 have hs : (sizeOf (Tryz.prog.elem 86)).run Tryz.prog V = .ok 4 V := by kernel_rfl
 have hlm : (k : Int) < (n : Int) := by omega
 unfold execOp
 simp only [ho, hx, hy]
 go_simp
theorem fdA_one (x : Fld) (b : Option Addr) (d : Nat) : (fdA x b d).all (·.oneCell') = true := by simp [Value.oneCell']
theorem new_fd (V : World) (x : Fld) (b : Option Addr) (d : Nat) : ∃ V2, (Instr.storeAt 91 (.pointer (some ⟨V.heap.size, 0, none⟩)) (.agg (fdA x b d))).run Tryz.prog (V.alloc (.cells (fdA zeroF none 0) 91)) = .ok () V2 ∧ Below V.heap.size V V2 ∧ Bx V2 V.heap.size (fdA x b d) 91 :=
 have hb : Bx (V.alloc (.cells (fdA zeroF none 0) 91)) V.heap.size (fdA zeroF none 0) 91 := heap_alloc_last V _
 ⟨_, run_store_all hb rfl (fdA_one x b d) (by kernel_rfl), belowRow ((Below.refl _ V).alloc (Nat.le_refl _) _) (Nat.le_refl _) _, hb.set⟩
theorem load_fdb {w : World} {g t : Nat} {x : Fld} {b : Option Addr} {d : Nat} (h : Bx w g (fdA x b d) t) : (Instr.loadAt 91 (.pointer (some ⟨g, 0, none⟩))).run Tryz.prog w = .ok (.agg (fdA x b d)) w :=
 load_fd fun j v hv => by
  rw [cell_of_row w g _ _ _ (0, 0) h]
  simpa using hv
set_option maxRecDepth 100000 in
set_option maxHeartbeats 8000000 in
theorem ref_message (a : Option Addr) (c : Nat) (P : List (Fld × Value)) (w : World) (hF : Fs w a P) (hv : ∀ p, p ∈ P → Vfi p.1.num p.1.kind p.1.val p.1.bytes.length ∧ W64 p.1.val) (hl : (msg (P.map Prod.fst)).length ≤ 900000) (hn0 : P.length ≤ 100000) :
  Calls Tryz.prog 44 #[.slice a P.length c] w fun e w' => ∃ v, e = .returned v ∧ Own w' w.heap.size v (msg (P.map Prod.fst)) ∧ Below w.heap.size w w' := by
 have HF := Lib.hid hF
 have HV := Lib.hid hv
 have HL := Lib.hid hl
 obtain ⟨M, hM⟩ : ∃ M, P.map Prod.fst = M := ⟨_, rfl⟩
 have HM := Lib.hid hM
 have HPM : Hid (M.length = P.length) := Lib.hid (by rw [← hM, List.length_map])
 rw [hM] at HL ⊢
 obtain ⟨n, hn⟩ : ∃ n, P.length = n := ⟨_, rfl⟩
 have HN := Lib.hid hn
 rw [hn] at hn0 HPM ⊢
 clear hF hv hl hM hn
 go_enter Tryz.func44, Tryz.ntmps44
 go_upto_region 1 with fail
 refine wl <| gz1 (.slice none 0 0) <| wn ?_
 simp only [pu]
 go_upto_region 2 with fail
 refine wl <| gz3 (.slice a n c) (.int .i64 n) (.int .i64 0) <| wn ?_
 simp only [pu]
 go_wp2_with fail
 go_loopg [3, 8] n (fun gg s3 s8 wx => ∃ (j : Nat) (b : Option Addr) (k d : Nat), s3 = .slice b k d ∧ s8 = .int .i64 j ∧ j ≤ n ∧ Hid (Own wx w.heap.size (.slice b k d) (msg (M.take j))) ∧ Hid (Below w.heap.size w wx) ∧ n - j = gg)
 case atStart => exact ⟨0, none, 0, 0, rfl, rfl, by omega, Lib.hid (Own.nil _ _), Lib.hid (Below.refl _ _), by omega⟩
 case round =>
  obtain ⟨j, b, k, d, rfl, rfl, hj, HO, HB, hg⟩ := hrel
  by_cases hlt : j < n
  ·have HD : Hid (decide ((j : Int) < (n : Int)) = true) := Lib.hid dT
   have HG : Hid (n - (j + 1) = gk - 1 ∧ 0 < gk ∧ j + 1 ≤ n) := Lib.hid ⟨by omega, by omega, by omega⟩
   have hjP : j < P.length := by rw [HN.out]; exact hlt
   obtain ⟨b0, off, ba, bc, rfl, hp2, hsl, hbox⟩ := HF.out j P[j] (List.getElem?_eq_getElem hjP)
   have hva := HV.out P[j] (List.getElem_mem hjP)
   have htk : msg (M.take (j + 1)) = msg (M.take j) ++ encF P[j].1 := by
    rw [← HM.out, List.take_succ_eq_append_getElem (by rw [List.length_map]; exact hjP), msg_app, List.getElem_map]
    simp [msg]
   have hle := msg_take M (j + 1)
   rw [htk, List.length_append] at hle
   generalize P[j].1 = x at *
   obtain ⟨b2, d2, e2, hs2, hc2⟩ := HO.out.sl
   simp only [Value.slice.injEq] at e2
   obtain ⟨rfl, rfl, rfl⟩ := e2
   have hLD := load_fd (fd_range (hbox.below HB.out))
   obtain ⟨V2, hst, hb2, hbx⟩ := new_fd wr x ba bc
   have hB2 := HB.out.trans (hb2.mono HB.out.size)
   have hll := HL.out
   have CF := ref_field b d (msg (M.take j)) x.num x.kind x.val ba bc x.bytes V2 (by omega) (by have := encI_len_ge x.num x.kind x.val x.bytes; unfold encF at hle; omega) (sl_below hs2 hb2) (sl_below hsl hB2) hva.1 hva.2
   have HTK := Lib.hid htk
   have HB2 := Lib.hid hB2
   clear hp2 hsl hbox hva hle hs2 hc2 HO hB2 hll htk hjP hb2 HB hg
   generalize msg (M.take j) = L at *
   go_upto_region 3 with fail
   refine wl <| gzw (.bool true) (lss_n rfl j n HD.out) <| wn ?_
   simp only [pu]
   go_upto_region 4 with fail
   refine wl <| gzv (.pointer (some ⟨b0, off + j * 4, none⟩)) (idx_fd b0 off n c j hlt _ _ _ rfl (by kernel_rfl) (by kernel_rfl)) <| gzl rfl ⟨b0, off + j * 4, none⟩ (.agg (fdA x ba bc)) hLD ?_
   simp only [pu]
   refine run_to rfl (some 5) rfl (.pointer (some ⟨wr.heap.size, 0, none⟩)) (wr.alloc (.cells (fdA zeroF none 0) 91)) (by kernel_rfl) ?_
   simp only [pu]
   refine gzs rfl hst <| wn ?_
   obtain ⟨g5, hg5⟩ : ∃ g5, wr.heap.size = g5 := ⟨_, rfl⟩
   rw [hg5] at hbx ⊢
   clear hst hg5 hLD
   go_upto_region 5 with fail
   refine wl <| gz1 (.slice b L.length d) <| gzl rfl ⟨g5, 0, none⟩ (.agg (fdA x ba bc)) (load_fdb hbx) <|
    gze (fun v w' => ∃ u, v = .tuple #[u, .int .i64 0] ∧ Own w' V2.heap.size u (L ++ encI x.num x.kind x.val x.bytes) ∧ Below V2.heap.size V2 w') (CF.mono fun e w' q => by obtain ⟨u, he, h⟩ := q; exact ⟨_, he, u, rfl, h⟩) (fun v V3 hq => ?_)
   obtain ⟨u, rfl, hO3, hb3⟩ := hq
   obtain ⟨b3, d3, rfl, -, -⟩ := hO3.sl
   simp only [pu]
   refine gz4 (.tuple #[.slice b3 (L ++ encI x.num x.kind x.val x.bytes).length d3, .int .i64 0]) (.slice b3 (L ++ encI x.num x.kind x.val x.bytes).length d3) (.int .i64 0) (.slice b3 (L ++ encI x.num x.kind x.val x.bytes).length d3) <| wn ?_
   simp only [pu]
   have HO3 := Lib.hid (hO3.base (HB2.out.size))
   have HB3 := Lib.hid (HB2.out.trans (hb3.mono HB2.out.size))
   clear hO3 hb3 hbx CF
   go_upto_region 6 with fail
   refine wl <| gzw (.int .i64 (j + 1 : Nat)) (add_nat rfl j 1 (by omega)) <| gz1 (.int .i64 (j + 1 : Nat)) <| wn ?_
   simp only [pu]
   go_wp2_with fail
   go_roundg (gk - 1)
   case measure => have := HG.out; omega
   case rel => exact ⟨j + 1, b3, _, d3, rfl, rfl, HG.out.2.2, Lib.hid (by rw [HTK.out]; exact HO3.out), HB3, HG.out.1⟩
  ·have HD : Hid (decide ((j : Int) < (n : Int)) = false) := Lib.hid dF
   have HO2 := Lib.hid (by have := HO.out; rwa [List.take_of_length_le (by rw [HPM.out]; omega)] at this : Own wr w.heap.size (.slice b k d) (msg M))
   clear HO hg
   go_upto_region 3 with fail
   refine wl <| gzw (.bool false) (lss_n rfl j n HD.out) <| wn ?_
   simp only [pu]
   go_upto_region 7 with fail
   refine wl <| gz2 (.slice b k d) (.slice b k d) <| wn ?_
   simp only [pu]
   go_wp2_with fail
   go_ret
   exact ⟨_, rfl, HO2.out, HB.out⟩
end Go.Proofs.YtglglhcnofbagaaGreat
