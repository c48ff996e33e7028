/-
  Ints in rows, stores into a block, the numbers that the statements draw from, how long an input is. (Out of stage 7's texts.)
-/
import Derived.Test.YtgkckblcekbafaaRW
import Derived.Laws.Tables
import Derived.Lib.SmallJoins
namespace Go.Proofs.Ytgkckblcekbafaa
open Go.RowKit
set_option linter.unusedSimpArgs false
set_option linter.unusedVariables false

/-- The cells of numbers, of elements. -/
def icells (L : List Int) : List Value := L.map (Value.int .i64)
theorem icells_len (L : List Int) : (icells L).length = L.length := by simp [icells]
theorem icells_app (A B : List Int) : icells (A ++ B) = icells A ++ icells B := by simp [icells]
theorem icells_at (L : List Int) (k : Nat) (h : k < L.length) : (icells L)[k]? = some (.int .i64 (L.getD k 0)) := by
  simp [icells, List.getD, List.getElem?_eq_getElem h]
theorem icells_one (L : List Int) : ∀ u ∈ icells L, u.oneCell' = true := fun u hu => by
  obtain ⟨x, -, rfl⟩ := List.mem_map.1 hu
  rfl
theorem icells_take (L : List Int) (k : Nat) : (icells L).take (k * 1) = icells (L.take k) := by simp [icells, List.map_take]
theorem icells_drop (L : List Int) (k : Nat) : (icells L).drop (k * 1) = icells (L.drop k) := by simp [icells, List.map_drop]
theorem load_cell {w : World} {t : TypeId} {a : Addr} {v : Value} (h : w.cell? a = some v) (hag : (isAgg t).run Try.prog w = .ok false w) : (Instr.loadAt t (.pointer (some a))).run Try.prog w = .ok v w := by
  simp [Instr.loadAt, Instr.sureAddr, loadVar, hag, run_load, h, Result.andThen]
/-- The list lies in a block. -/
def Bx (w : World) (g : Nat) (cs : Array Value) (t : Nat) : Prop := w.heap[g]? = some (.cells cs t (0, 0))
theorem Bx.lt {w : World} {g t : Nat} {cs : Array Value} (h : Bx w g cs t) : g < w.heap.size := (Array.getElem?_eq_some_iff.1 h).1
theorem Bx.below {w w' : World} {g t B : Nat} {cs : Array Value} (h : Bx w g cs t) (hg : g < B) (hb : Below B w w') : Bx w' g cs t := (hb.block g hg).trans h
theorem Bx.load {w : World} {g t i : Nat} {cs : Array Value} {v : Value} {ty : TypeId} (h : Bx w g cs t) (hv : cs[i]? = some v) (hag : (isAgg ty).run Try.prog w = .ok false w) : (Instr.loadAt ty (.pointer (some ⟨g, i, none⟩))).run Try.prog w = .ok v w :=
  load_cell ((cell_of_row w g i _ t (0, 0) h).trans hv) hag
theorem idx_int (b off n c k : Nat) (hk : k < n) (V : World) (ρ : Operand → Value) (o : Oper) {x y : Operand} (ho : o.op = .indexAddr 23 x y) (hx : ρ x = .slice (some ⟨b, off, none⟩) n c) (hy : ρ y = .int .i64 k) : (execOp ρ o).run Try.prog V = .ok (.value (.pointer (some ⟨b, off + k, none⟩))) V := by
  have hs : (sizeOf (Try.prog.elem 23)).run Try.prog V = .ok 1 V := by kernel_rfl
  have hlm : (k : Int) < (n : Int) := by omega
  unfold execOp
  simp only [ho, hx, hy]
  go_simp
theorem int_at {w : World} {a : Option Addr} {L : List Int} (h : Cs w a (icells L)) {k : Nat} (hk : k < L.length) : ∃ b off, a = some ⟨b, off, none⟩ ∧ b < w.heap.size ∧ w.cell? ⟨b, off + k, none⟩ = some (.int .i64 (L.getD k 0)) := h _ _ (icells_at L k hk)
theorem belowRow {w w0 : World} {g B : Nat} (h : Below B w0 w) (hn : B ≤ g) (cs : Array Value) : Below B w0 (w.setRow g cs) :=
  ⟨h.os, h.tape, h.output, by rw [size_setRow]; exact h.size, fun k hk => (setRow_other w g k cs (by omega)).trans (h.block k hk)⟩
/-- The world has new blocks, and block g is written. -/
def But (g : Nat) (w w' : World) : Prop := Below g w w' ∧ ∀ k, k < w.heap.size → k ≠ g → w'.heap[k]? = w.heap[k]?
theorem But.refl (g : Nat) (w : World) : But g w w := ⟨Below.refl _ _, fun _ _ _ => rfl⟩
theorem But.trans {g : Nat} {a b c : World} (h : But g a b) (k : But g b c) : But g a c :=
  ⟨h.1.trans k.1, fun i hi hn => (k.2 i (by have := h.1.size; omega) hn).trans (h.2 i hi hn)⟩
theorem But.of_below {g : Nat} {w w' : World} (h : Below w.heap.size w w') (hg : g ≤ w.heap.size) : But g w w' := ⟨h.mono hg, fun k hk _ => h.block k hk⟩
theorem But.setRow {g : Nat} (w : World) (cs : Array Value) : But g w (w.setRow g cs) :=
  ⟨belowRow (Below.refl _ _) (Nat.le_refl _) cs, fun k _ hn => setRow_other w g k cs hn⟩
theorem But.below {g B : Nat} {w w' : World} (h : But g w w') (hB : B ≤ g) : Below B w w' := h.1.mono hB
theorem Bx.but {w w' : World} {g k t : Nat} {cs : Array Value} (h : Bx w k cs t) (hb : But g w w') (hn : k ≠ g) : Bx w' k cs t := (hb.2 k h.lt hn).trans h
theorem Bx.set {w : World} {g t : Nat} {cs cs' : Array Value} (h : Bx w g cs t) : Bx (w.setRow g cs') g cs' t := setRow_heap _ _ _ _ _ _ h
/-- A row whose block is not g. -/
theorem Cs.but {w w' : World} {g : Nat} {a : Option Addr} {cs : List Value} (h : Cs w a cs) (hb : But g w w') (hn : ∀ x, a = some x → x.block ≠ g) : Cs w' a cs := fun j v hj => by
  obtain ⟨b, off, e, hlt, hc⟩ := h j v hj
  refine ⟨b, off, e, Nat.lt_of_lt_of_le hlt hb.1.size, ?_⟩
  rw [← hc]
  unfold World.cell?
  rw [hb.2 b hlt (hn _ e)]
theorem own_but {w w' : World} {g B e size n : Nat} {v : Value} {xs : List Value} (h : w.ownsRow B e size v n xs) (hb : But g w w') (hn : g < B) : w'.ownsRow B e size v n xs := by
  refine ⟨h.1, ?_⟩
  rcases h.2 with h0 | ⟨k, cap, cur, ev, hB, hg, r⟩
  · exact .inl h0
  · exact .inr ⟨k, cap, cur, ev, hB, (hb.2 k (Array.getElem?_eq_some_iff.1 hg).1 (by omega)).trans hg, r⟩
theorem run_store_cell {w : World} {g t i : Nat} {cs : Array Value} {v : Value} {ty : TypeId} (h : Bx w g cs t) (hi : i < cs.size) (h1 : v.oneCell' = true) (hs : (Try.prog.info? ty).map (·.size) = some 1) :
    (Instr.storeAt ty (.pointer (some ⟨g, i, none⟩)) v).run Try.prog w = .ok () (w.setCell ⟨g, i, none⟩ v) := by
  have hc : v.cells = #[v] := by cases v <;> first | rfl | cases h1
  have hcell : w.cell? ⟨g, i, none⟩ = some cs[i] := by rw [cell_of_row w g i _ t (0, 0) h]; simp [hi]
  have hfz : w.frozen? ⟨g, i, none⟩ = false := frozen_of_row w g i _ t h
  have ha : (⟨g, i, none⟩ : Addr).add 0 = ⟨g, i, none⟩ := by simp [Addr.add]
  cases hq : Try.prog.info? ty with
  | none => simp [hq] at hs
  | some j =>
    have hs : j.size = 1 := by simpa [hq] using hs
    simp [Instr.storeAt, Instr.sureAddr, storeVar, sizeOf, typeInfo, hq, hc, hs, storeCells, run_store _ _ _ _ _ h1, ha, hcell, hfz]
theorem But.setCell {g : Nat} (w : World) (o : Nat) (v : Value) : But g w (w.setCell ⟨g, o, none⟩ v) :=
  ⟨(Below.refl g w).setCell (Nat.le_refl _) v, fun k _ hn => heap_setCell_other w _ k v hn⟩
theorem Bx.setC {w : World} {g t i : Nat} {cs : Array Value} (h : Bx w g cs t) (v : Value) : Bx (w.setCell ⟨g, i, none⟩ v) g (cs.setIfInBounds i v) t := Joins.block_setCell h v
theorem run_store_all {w : World} {g t : Nat} {cs cs' : Array Value} {ty : TypeId} (h : Bx w g cs t) (hz : cs.size = cs'.size) (h1 : cs'.all (·.oneCell') = true) (hs : (Try.prog.info? ty).map (·.size) = some cs'.size) :
    (Instr.storeAt ty (.pointer (some ⟨g, 0, none⟩)) (.agg cs')).run Try.prog w = .ok () (w.setRow g cs') := by
  simp only [Instr.storeAt, Instr.sureAddr, Sem.run_bind, Sem.run_pure, Result.andThen_ok]
  exact run_storeVar_row w g t ty cs cs' h hs hz h1
section
variable {P : Program} {ops : Array Oper} {rest : List Oper} {o : Oper} {a : Act} {w : World} {Q : Exit → Act → World → Prop} {i : Nat} {K : Act → World → Prop}
theorem gw_store (hw : Region.wanted o (yielded ops a.tmps) = true) (hd : o.dst = none) (ty : TypeId) (x y : Operand) (ho : o.op = .store ty x y) (vx vy : Value) (hx : a.eval x = vx) (hy : a.eval y = vy) (w2 : World)
    (hr : (Instr.storeAt ty vx vy).run P w = .ok () w2) (k : wpList P ops Q rest a w2) : wpList P ops Q (o :: rest) a w := by
  apply wpList_step
  intro K hK
  rw [if_pos hw]
  unfold Oper.wp execOp
  simp only [ho, hx, hy, Sem.run_bind, hr, Result.andThen_ok]
  show K (a.put o.dst undef) _
  rw [hd]
  exact hK _ _ k
theorem gzs {ty : TypeId} {x y : Operand} (ho : o.op = .store ty x y) {vx vy : Value} {w2 : World} (hr : (Instr.storeAt ty vx vy).run P w = .ok () w2) (k : wpList P ops Q rest a w2) (hw : Region.wanted o (yielded ops a.tmps) = true := by kernel_rfl) (hd : o.dst = none := by kernel_rfl) (hx : a.eval x = vx := by kernel_rfl) (hy : a.eval y = vy := by kernel_rfl) : wpList P ops Q (o :: rest) a w := gw_store hw hd ty x y ho vx vy hx hy w2 hr k
theorem st_storeA (hi : ops[i]? = some o) (hw : Region.wanted o (yielded ops a.tmps) = true) (hd : o.dst = none) (ty : TypeId) (x y : Operand) (ho : o.op = .store ty x y) (vx vy : Value) (hx : a.eval x = vx) (hy : a.eval y = vy) (w2 : World)
    (hr : (Instr.storeAt ty vx vy).run P w = .ok () w2) (h : K a w2) : wpOp P ops Q i K a w := by
  refine st_of hi hw ?_
  unfold Oper.wp execOp
  simp only [ho, hx, hy, Sem.run_bind, hr, Result.andThen_ok]
  show K (a.put o.dst undef) _
  rw [hd]
  exact h
end
theorem infoI : (Try.prog.info? 3).map (fun i => (i.zero, i.size, i.bytes)) = some (some (.int .i64 0), 1, 8) := by kernel_rfl
theorem append_int {w : World} {B n m : Nat} {v : Value} {xs : List Value} (hO : w.ownsRow B 3 1 v n xs) (pa : Option Addr) (cp : Nat) (L : List Int) (hP : Cs w pa (icells L)) (hl : L.length = m) (hB : B ≤ w.heap.size) (hn : n ≤ 100000) (hm : m ≤ 100000) :
    ∃ v' w', (Builtin.append_ #[23, 23] 23 #[v, .slice pa m cp]).run Try.prog w = .ok v' w' ∧ w'.ownsRow B 3 1 v' (n + m) (xs ++ icells L) ∧ Below B w w' ∧ w.grownBy w' v.ownBlock :=
  append_cs Try.underlying23 infoI rfl (by omega) (by omega) hO pa cp _ hP (by rw [icells_len, hl, Nat.mul_one]) (icells_one _) hB hn hm
theorem nil_int (w : World) : (Instr.buildSlice 23 0 #[]).run Try.prog w = .ok (.slice (some ⟨w.heap.size, 0, none⟩) 0 0) (w.alloc (.cells #[] 3)) := build_nil Try.underlying23 infoI w
theorem one_int (x : Int) (w : World) : (Instr.buildSlice 23 1 #[(0, .int .i64 x)]).run Try.prog w = .ok (.slice (some ⟨w.heap.size, 0, none⟩) 1 1) (w.alloc (.cells #[.int .i64 x] 3)) := by
  obtain ⟨i0, hi, hz0, hz1, hz2⟩ := info_parts infoI
  refine run_buildSlice w 23 3 1 _ #[.int .i64 x] i0 _ Try.underlying23 hi hz0 (by rw [hz1]; omega) (by rw [hz1]; omega) ?_
  rw [hz1]
  kernel_rfl
theorem cut_int_to (a : Option Addr) (n c k : Nat) (w : World) (h : k ≤ c) : (Instr.slice 23 (.slice a n c) none (some (.int .i64 (k : Int))) none).run Try.prog w = .ok (.slice a k c) w := cut_to (s := 1) (by kernel_rfl) (fun w => by kernel_rfl) a n c k w h
def I64 (x : Int) : Prop := -9223372036854775808 ≤ x ∧ x ≤ 9223372036854775807
/-- A number from 0 to below n that depends on any number. -/
def pl (x n : Int) : Int := if x.tmod n < 0 then x.tmod n + n else x.tmod n
theorem tmod_range (x n : Int) (hn : 0 < n) : -n < x.tmod n ∧ x.tmod n < n := by
  rcases Int.le_total 0 x with h | h
  · have h1 := Int.tmod_nonneg n h
    have h2 := Int.tmod_lt_of_pos x hn
    omega
  · have h1 := Int.tmod_nonneg n (show 0 ≤ -x by omega)
    have h2 := Int.tmod_lt_of_pos (-x) hn
    rw [Int.neg_tmod] at h1 h2
    omega
theorem pl_range (x n : Int) (hn : 0 < n) : 0 ≤ pl x n ∧ pl x n < n := by
  have := tmod_range x n hn
  unfold pl
  split <;> omega
theorem rem_i64 {ρ : Operand → Value} {o : Oper} {x y : Operand} (ho : o.op = .binOp .rem 3 x y 3) (a b : Int) (hb : b ≠ 0) (hx : ρ x = .int .i64 a) (hy : ρ y = .int .i64 b) (w : World) :
    (execOp ρ o).run Try.prog w = .ok (.value (.int .i64 (a.tmod b))) w := by
  unfold execOp
  simp only [ho, hx, hy]
  simp [hb, go_sem]
set_option maxHeartbeats 1000000 in
theorem mk_place (x n : Int) (w : World) (hn : 0 < n) (hn2 : n ≤ 1000000) :
    Calls Try.prog 19 #[.int .i64 x, .int .i64 n] w fun e w' => e = .returned (.int .i64 (pl x n)) ∧ w = w' := by
  have hr := tmod_range x n hn
  have hnz : ¬ n = 0 := by omega
  unfold pl
  obtain ⟨r, hr0⟩ : ∃ r, x.tmod n = r := ⟨_, rfl⟩
  have hw : IntKind.i64.wrap r = r := by rw [IntKind.wrap_i64]; omega
  rw [hr0] at hr ⊢
  have HR := Lib.hid hr0
  clear hr0
  obtain ⟨Q, hQ⟩ : ∃ Q, Q = if r < 0 then r + n else r := ⟨_, rfl⟩
  rw [← hQ]
  have HQ := Lib.hid hQ
  clear hQ
  go_enter Try.func19, Try.ntmps19
  go_upto_region 1 with fail
  apply wp_region_lit
  refine gw_val (by kernel_rfl) (some 5) rfl (.int .i64 x) (by kernel_rfl) ?_
  simp only [pu1, pu2, pu3, pu4]
  refine gw_val (by kernel_rfl) (some 6) rfl (.int .i64 n) (by kernel_rfl) ?_
  simp only [pu1, pu2, pu3, pu4]
  refine gw_val (by kernel_rfl) (some 7) rfl (.int .i64 (x.tmod n)) (rem_i64 rfl x n hnz (by kernel_rfl) (by kernel_rfl) w) ?_
  rw [HR.out]
  simp only [pu1, pu2, pu3, pu4]
  refine gw_val (by kernel_rfl) (some 0) rfl (.int .i64 r) (by kernel_rfl) ?_
  simp only [pu1, pu2, pu3, pu4]
  apply wpList_nil
  by_cases h0 : r < 0
  · have hd : decide (r < 0) = true := decide_eq_true h0
    have HQ2 : Hid (Q = r + n) := Lib.hid (by rw [HQ.out, if_pos h0])
    have hw3 : IntKind.i64.wrap (r + n) = r + n := by rw [IntKind.wrap_i64]; omega
    clear HQ HR
    go_wp2_with fail
    go_ret
    exact ⟨by rw [HQ2.out]; rfl, rfl⟩
  · have hd : decide (r < 0) = false := decide_eq_false h0
    have HQ2 : Hid (Q = r) := Lib.hid (by rw [HQ.out, if_neg h0])
    clear HQ HR
    go_wp2_with fail
    go_ret
    exact ⟨by rw [HQ2.out]; rfl, rfl⟩
set_option maxHeartbeats 1000000 in
theorem mk_from (a : Option Addr) (n c : Nat) (w : World) : Calls Try.prog 11 #[.slice a n c] w fun e w' => e = .returned (.pointer (some ⟨w.heap.size, 0, none⟩)) ∧ w' = w.alloc (.cells #[.slice a n c, .int .i64 0] 56) := by
  go_enter Try.func11, Try.ntmps11
  go_upto_region 1 with fail
  apply wp_region_lit
  refine gw_val (by kernel_rfl) (some 3) rfl (.slice a n c) (by kernel_rfl) ?_
  simp only [pu1, pu2, pu3, pu4]
  refine gw_val (by kernel_rfl) (some 4) rfl (.agg #[.slice a n c, .int .i64 0]) (by kernel_rfl) ?_
  simp only [pu1, pu2, pu3, pu4]
  refine run_to rfl (some 5) rfl (.pointer (some ⟨w.heap.size, 0, none⟩)) (w.alloc (.cells #[.slice a n c, .int .i64 0] 56)) (by kernel_rfl) ?_
  simp only [pu1, pu2, pu3, pu4]
  refine gw_val (by kernel_rfl) (some 2) rfl (.pointer (some ⟨w.heap.size, 0, none⟩)) (by kernel_rfl) ?_
  simp only [pu1, pu2, pu3, pu4]
  apply wpList_nil
  go_wp2_with fail
  go_ret
  exact ⟨rfl, rfl⟩
theorem add_one {ρ : Operand → Value} {o : Oper} {x : Operand} (ho : o.op = .binOp .add 3 x (.const (.int .i64 1)) 3) (m : Nat) (hm : m ≤ 1000000) (hx : ρ x = .int .i64 m) (w : World) (hρ : ρ (.const (.int .i64 1)) = .int .i64 1 := by rfl) : (execOp ρ o).run Try.prog w = .ok (.value (.int .i64 (m + 1 : Nat))) w := by
  unfold execOp
  simp only [ho, hx, hρ]
  simp [go_sem]
  rw [IntKind.wrap_i64]
  omega
theorem lt_nat {ρ : Operand → Value} {o : Oper} {x y : Operand} (ho : o.op = .binOp .lss 3 x y 3) (a b : Nat) (hx : ρ x = .int .i64 a) (hy : ρ y = .int .i64 b) (w : World) : (execOp ρ o).run Try.prog w = .ok (.value (.bool (decide (a < b)))) w := by
  unfold execOp
  simp only [ho, hx, hy]
  simp [go_sem]
set_option maxRecDepth 100000 in
set_option maxHeartbeats 2000000 in
theorem mk_next (g : Nat) (L : List Int) (a : Option Addr) (c N : Nat) (n : Int) (w : World) (hX : Bx w g #[.slice a L.length c, .int .i64 N] 56) (hL : Cs w a (icells L)) (hl : L.length ≤ 100000) (hN : N ≤ 100000) (hn : 0 < n) (hn2 : n ≤ 1000000) :
    Calls Try.prog 15 #[.pointer (some ⟨g, 0, none⟩), .int .i64 n] w fun e w' => e = .returned (.int .i64 (pl (L.getD N 0) n)) ∧ But g w w' ∧ Bx w' g #[.slice a L.length c, .int .i64 (N + 1 : Nat)] 56 := by
  have CP := fun x V => mk_place x n V hn hn2
  have tail : ∀ (V : World) (x : Int), x = L.getD N 0 → But g w V → Bx V g #[.slice a L.length c, .int .i64 N] 56 → True := fun _ _ _ _ _ => trivial
  by_cases hlt : N < L.length
  · obtain ⟨b, off, rfl, hb, hc⟩ := int_at hL hlt
    have hd : decide (N < L.length) = true := decide_eq_true hlt
    obtain ⟨x, hx⟩ : ∃ x, L.getD N 0 = x := ⟨_, rfl⟩
    rw [hx] at hc ⊢
    generalize L.length = k at *
    clear hx hL tail
    go_enter Try.func15, Try.ntmps15
    go_upto_region 2 with fail
    refine wp_region_class (C := fun w' => Below w.heap.size w w') (by kernel_rfl) (by kernel_rfl) (Below.refl _ w).drew ?_
    refine gyv (.pointer (some ⟨g, 0, none⟩)) (fun w' _ => by kernel_rfl) <| gyv (.pointer (some ⟨g, 0, none⟩)) (fun w' _ => by kernel_rfl) <| gyv (.pointer (some ⟨g, 1, none⟩)) (fun w' _ => by kernel_rfl) <|
      gyl rfl ⟨g, 1, none⟩ (.int .i64 N) (fun w' hC => (hX.below hX.lt hC).load rfl (by kernel_rfl)) <| gyv (.pointer (some ⟨g, 0, none⟩)) (fun w' _ => by kernel_rfl) <| gyv (.pointer (some ⟨g, 0, none⟩)) (fun w' _ => by kernel_rfl) <| gyv (.pointer (some ⟨g, 0, none⟩)) (fun w' _ => by kernel_rfl) <|
      gyl rfl ⟨g, 0, none⟩ (.slice (some ⟨b, off, none⟩) k c) (fun w' hC => (hX.below hX.lt hC).load rfl (by kernel_rfl)) <| gyv (.int .i64 k) (fun w' _ => by kernel_rfl) <| gyv (.bool (decide (N < k))) (fun w' _ => lt_nat rfl N k (by kernel_rfl) (by kernel_rfl) w') ?_
    rw [hd]
    simp only [pu1, pu2, pu3, pu4]
    refine wpQuiet_nil ?_
    intro V hV
    have hXV := hX.below hX.lt hV
    have hcV := (hV.cell (p := ⟨b, off + N, none⟩) hb).trans hc
    have hbV := Nat.lt_of_lt_of_le hb hV.size
    go_upto_region 3 with fail
    refine wp_region_class (C := fun w' => Below V.heap.size V w') (by kernel_rfl) (by kernel_rfl) (Below.refl _ V).drew ?_
    refine gyv (.pointer (some ⟨g, 0, none⟩)) (fun w' _ => by kernel_rfl) <| gyv (.pointer (some ⟨g, 0, none⟩)) (fun w' _ => by kernel_rfl) <| gyv (.pointer (some ⟨g, 0, none⟩)) (fun w' _ => by kernel_rfl) <|
      gyl rfl ⟨g, 0, none⟩ (.slice (some ⟨b, off, none⟩) k c) (fun w' hC => (hXV.below hXV.lt hC).load rfl (by kernel_rfl)) <| gyv (.pointer (some ⟨g, 0, none⟩)) (fun w' _ => by kernel_rfl) <| gyv (.pointer (some ⟨g, 0, none⟩)) (fun w' _ => by kernel_rfl) <|
      gyv (.pointer (some ⟨g, 1, none⟩)) (fun w' _ => by kernel_rfl) <| gyl rfl ⟨g, 1, none⟩ (.int .i64 N) (fun w' hC => (hXV.below hXV.lt hC).load rfl (by kernel_rfl)) <| gyv (.pointer (some ⟨b, off + N, none⟩)) (fun w' _ => idx_int b off k c N hlt w' _ _ rfl (by kernel_rfl) (by kernel_rfl)) <|
      gyl rfl ⟨b, off + N, none⟩ (.int .i64 x) (fun w' hC => load_cell ((hC.cell (p := ⟨b, off + N, none⟩) hbV).trans hcV) (by kernel_rfl)) <| gyv (.int .i64 x) (fun w' _ => by kernel_rfl) ?_
    simp only [pu]
    refine wpQuiet_nil ?_
    intro V2 hV2
    have hX2 := hXV.below hXV.lt hV2
    have hB2 := hV.trans (hV2.mono hV.size)
    clear hXV hcV hbV hV hV2 hc hb
    go_upto_region 4 with fail
    apply wp_region_lit
    refine gw_val (by kernel_rfl) (some 26) rfl (.pointer (some ⟨g, 0, none⟩)) (by kernel_rfl) ?_
    simp only [pu1, pu2, pu3, pu4]
    refine gw_val (by kernel_rfl) (some 27) rfl (.pointer (some ⟨g, 0, none⟩)) (by kernel_rfl) ?_
    simp only [pu1, pu2, pu3, pu4]
    refine gw_val (by kernel_rfl) (some 28) rfl (.pointer (some ⟨g, 1, none⟩)) (by kernel_rfl) ?_
    simp only [pu1, pu2, pu3, pu4]
    refine gw_load (by kernel_rfl) (some 29) rfl 3 (.tmp 28) rfl ⟨g, 1, none⟩ (.int .i64 N) (by kernel_rfl) (hX2.load rfl (by kernel_rfl)) ?_
    simp only [pu1, pu2, pu3, pu4]
    refine gw_val (by kernel_rfl) (some 30) rfl (.int .i64 (N + 1 : Nat)) (add_one rfl N (by omega) (by kernel_rfl) V2) ?_
    simp only [pu1, pu2, pu3, pu4]
    refine gw_val (by kernel_rfl) (some 31) rfl (.pointer (some ⟨g, 0, none⟩)) (by kernel_rfl) ?_
    simp only [pu1, pu2, pu3, pu4]
    refine gw_val (by kernel_rfl) (some 32) rfl (.pointer (some ⟨g, 1, none⟩)) (by kernel_rfl) ?_
    simp only [pu1, pu2, pu3, pu4]
    refine gw_store (by kernel_rfl) rfl 3 (.tmp 32) (.tmp 30) rfl (.pointer (some ⟨g, 1, none⟩)) (.int .i64 (N + 1 : Nat)) (by kernel_rfl) (by kernel_rfl) _ (run_store_cell hX2 (by simp) rfl (by kernel_rfl)) ?_
    apply wpList_nil
    have hX3 : Bx (V2.setCell ⟨g, 1, none⟩ (.int .i64 (N + 1 : Nat))) g #[.slice (some ⟨b, off, none⟩) k c, .int .i64 (N + 1 : Nat)] 56 := hX2.setC _
    have hB3 := (But.of_below hB2 (Nat.le_of_lt hX.lt)).trans (But.setCell (g := g) V2 1 (.int .i64 (N + 1 : Nat)))
    generalize V2.setCell ⟨g, 1, none⟩ (.int .i64 (N + 1 : Nat)) = V3 at *
    have HX3 := Lib.hid hX3
    have HB3 := Lib.hid hB3
    clear hX2 hB2 hX3 hB3 hX
    go_wp2_with (go_at_call 19; refine (CP _ _).mono ?_; rintro e w9 ⟨rfl, rfl⟩)
    go_ret
    exact ⟨rfl, HB3.out, HX3.out⟩
  · have hd : decide (N < L.length) = false := decide_eq_false hlt
    have hx : L.getD N 0 = 0 := by simp [List.getD, List.getElem?_eq_none (show L.length ≤ N by omega)]
    rw [hx]
    generalize L.length = k at *
    obtain ⟨x, hx0⟩ : ∃ x : Int, x = 0 := ⟨_, rfl⟩
    clear hx hL tail
    go_enter Try.func15, Try.ntmps15
    go_upto_region 2 with fail
    refine wp_region_class (C := fun w' => Below w.heap.size w w') (by kernel_rfl) (by kernel_rfl) (Below.refl _ w).drew ?_
    refine gyv (.pointer (some ⟨g, 0, none⟩)) (fun w' _ => by kernel_rfl) <| gyv (.pointer (some ⟨g, 0, none⟩)) (fun w' _ => by kernel_rfl) <| gyv (.pointer (some ⟨g, 1, none⟩)) (fun w' _ => by kernel_rfl) <|
      gyl rfl ⟨g, 1, none⟩ (.int .i64 N) (fun w' hC => (hX.below hX.lt hC).load rfl (by kernel_rfl)) <| gyv (.pointer (some ⟨g, 0, none⟩)) (fun w' _ => by kernel_rfl) <| gyv (.pointer (some ⟨g, 0, none⟩)) (fun w' _ => by kernel_rfl) <| gyv (.pointer (some ⟨g, 0, none⟩)) (fun w' _ => by kernel_rfl) <|
      gyl rfl ⟨g, 0, none⟩ (.slice a k c) (fun w' hC => (hX.below hX.lt hC).load rfl (by kernel_rfl)) <| gyv (.int .i64 k) (fun w' _ => by kernel_rfl) <| gyv (.bool (decide (N < k))) (fun w' _ => lt_nat rfl N k (by kernel_rfl) (by kernel_rfl) w') ?_
    rw [hd]
    simp only [pu1, pu2, pu3, pu4]
    refine wpQuiet_nil ?_
    intro V2 hB2
    have hX2 := hX.below hX.lt hB2
    rw [← hx0]
    go_upto_region 4 with fail
    apply wp_region_lit
    refine gw_val (by kernel_rfl) (some 26) rfl (.pointer (some ⟨g, 0, none⟩)) (by kernel_rfl) ?_
    simp only [pu1, pu2, pu3, pu4]
    refine gw_val (by kernel_rfl) (some 27) rfl (.pointer (some ⟨g, 0, none⟩)) (by kernel_rfl) ?_
    simp only [pu1, pu2, pu3, pu4]
    refine gw_val (by kernel_rfl) (some 28) rfl (.pointer (some ⟨g, 1, none⟩)) (by kernel_rfl) ?_
    simp only [pu1, pu2, pu3, pu4]
    refine gw_load (by kernel_rfl) (some 29) rfl 3 (.tmp 28) rfl ⟨g, 1, none⟩ (.int .i64 N) (by kernel_rfl) (hX2.load rfl (by kernel_rfl)) ?_
    simp only [pu1, pu2, pu3, pu4]
    refine gw_val (by kernel_rfl) (some 30) rfl (.int .i64 (N + 1 : Nat)) (add_one rfl N (by omega) (by kernel_rfl) V2) ?_
    simp only [pu1, pu2, pu3, pu4]
    refine gw_val (by kernel_rfl) (some 31) rfl (.pointer (some ⟨g, 0, none⟩)) (by kernel_rfl) ?_
    simp only [pu1, pu2, pu3, pu4]
    refine gw_val (by kernel_rfl) (some 32) rfl (.pointer (some ⟨g, 1, none⟩)) (by kernel_rfl) ?_
    simp only [pu1, pu2, pu3, pu4]
    refine gw_store (by kernel_rfl) rfl 3 (.tmp 32) (.tmp 30) rfl (.pointer (some ⟨g, 1, none⟩)) (.int .i64 (N + 1 : Nat)) (by kernel_rfl) (by kernel_rfl) _ (run_store_cell hX2 (by simp) rfl (by kernel_rfl)) ?_
    apply wpList_nil
    have hX3 : Bx (V2.setCell ⟨g, 1, none⟩ (.int .i64 (N + 1 : Nat))) g #[.slice a k c, .int .i64 (N + 1 : Nat)] 56 := hX2.setC _
    have hB3 := (But.of_below hB2 (Nat.le_of_lt hX.lt)).trans (But.setCell (g := g) V2 1 (.int .i64 (N + 1 : Nat)))
    generalize V2.setCell ⟨g, 1, none⟩ (.int .i64 (N + 1 : Nat)) = V3 at *
    have HX3 := Lib.hid hX3
    have HB3 := Lib.hid hB3
    clear hX2 hB2 hX3 hB3 hX
    go_wp2_with (go_at_call 19; refine (CP _ _).mono ?_; rintro e w9 ⟨rfl, rfl⟩)
    go_ret
    exact ⟨rfl, HB3.out, HX3.out⟩
theorem idx_row (b off n c k : Nat) (hk : k < n) (V : World) (ρ : Operand → Value) (o : Oper) {x y : Operand} (ho : o.op = .indexAddr 52 x y) (hx : ρ x = .slice (some ⟨b, off, none⟩) n c) (hy : ρ y = .int .i64 k) : (execOp ρ o).run Try.prog V = .ok (.value (.pointer (some ⟨b, off + k, none⟩))) V := by
  have hs : (sizeOf (Try.prog.elem 52)).run Try.prog V = .ok 1 V := by kernel_rfl
  have hlm : (k : Int) < (n : Int) := by omega
  unfold execOp
  simp only [ho, hx, hy]
  go_simp
theorem infoS : (Try.prog.info? 23).map (fun i => (i.zero, i.size, i.bytes)) = some (some (.slice none 0 0), 1, 24) := by kernel_rfl
theorem one_row (a : Option Addr) (n c : Nat) (w : World) : (Instr.buildSlice 52 1 #[(0, .slice a n c)]).run Try.prog w = .ok (.slice (some ⟨w.heap.size, 0, none⟩) 1 1) (w.alloc (.cells #[.slice a n c] 23)) := by
  obtain ⟨i0, hi, hz0, hz1, hz2⟩ := info_parts infoS
  refine run_buildSlice w 52 23 1 _ #[.slice a n c] i0 _ Try.underlying52 hi hz0 (by rw [hz1]; omega) (by rw [hz1]; omega) ?_
  rw [hz1]
  kernel_rfl
theorem add_nat {ρ : Operand → Value} {o : Oper} {x y : Operand} (ho : o.op = .binOp .add 3 x y 3) (a b : Nat) (h : a + b ≤ 9223372036854775807) (hx : ρ x = .int .i64 a) (hy : ρ y = .int .i64 b) (w : World) : (execOp ρ o).run Try.prog w = .ok (.value (.int .i64 (a + b : Nat))) w := by
  unfold execOp
  simp only [ho, hx, hy]
  simp [go_sem]
  rw [IntKind.wrap_i64]
  omega
set_option maxRecDepth 100000 in
set_option maxHeartbeats 2000000 in
theorem long_one (g : Nat) (a : Option Addr) (n c : Nat) (w : World) (hX : Bx w g #[.slice a n c] 23) (hn : n ≤ 9223372036854775807) : Calls Try.prog 7 #[.slice (some ⟨g, 0, none⟩) 1 1] w fun e w' => e = .returned (.bool (decide ((160 : Int) < (n : Int)))) ∧ w = w' := by
  have hl : (Instr.loadAt 23 (.pointer (some ⟨g, 0, none⟩))).run Try.prog w = .ok (.slice a n c) w := hX.load rfl (by kernel_rfl)
  clear hX
  go_enter Try.func7, Try.ntmps7
  go_wp2_with fail
  go_loopg [3, 8] 1 (fun gg s3 s8 wx => ((s3 = .int .i64 (0 : Nat) ∧ s8 = .int .i64 (0 : Nat) ∧ gg = 1) ∨ (s3 = .int .i64 (n : Nat) ∧ s8 = .int .i64 (1 : Nat) ∧ gg = 0)) ∧ w = wx)
  case atStart => exact ⟨.inl ⟨rfl, rfl, rfl⟩, rfl⟩
  case round =>
    obtain ⟨⟨rfl, rfl, rfl⟩ | ⟨rfl, rfl, rfl⟩, rfl⟩ := hrel
    · go_upto_region 4 with fail
      apply wp_region_lit
      refine gw_val (by kernel_rfl) (some 10) rfl (.pointer (some ⟨g, 0, none⟩)) (idx_row g 0 1 1 0 (by omega) w _ _ rfl (by kernel_rfl) (by kernel_rfl)) ?_
      simp only [pu1, pu2, pu3, pu4]
      refine gw_load (by kernel_rfl) (some 11) rfl 23 (.tmp 10) rfl ⟨g, 0, none⟩ (.slice a n c) (by kernel_rfl) (hl) ?_
      simp only [pu1, pu2, pu3, pu4]
      refine gw_val (by kernel_rfl) (some 5) rfl (.slice a n c) (by kernel_rfl) ?_
      simp only [pu1, pu2, pu3, pu4]
      apply wpList_nil
      go_upto_region 5 with fail
      apply wp_region_lit
      refine gw_val (by kernel_rfl) (some 12) rfl (.int .i64 (0 : Nat)) (by kernel_rfl) ?_
      simp only [pu1, pu2, pu3, pu4]
      refine gw_val (by kernel_rfl) (some 13) rfl (.slice a n c) (by kernel_rfl) ?_
      simp only [pu1, pu2, pu3, pu4]
      refine gw_val (by kernel_rfl) (some 14) rfl (.int .i64 n) (by kernel_rfl) ?_
      simp only [pu1, pu2, pu3, pu4]
      refine gw_val (by kernel_rfl) (some 15) rfl (.int .i64 (0 + n : Nat)) (add_nat rfl 0 n (by omega) (by kernel_rfl) (by kernel_rfl) w) ?_
      rw [Nat.zero_add]
      simp only [pu1, pu2, pu3, pu4]
      refine gw_val (by kernel_rfl) (some 3) rfl (.int .i64 n) (by kernel_rfl) ?_
      simp only [pu1, pu2, pu3, pu4]
      apply wpList_nil
      clear hl
      go_wp2_with fail
      go_roundg 0
      case measure => omega
      case rel => exact ⟨.inr ⟨rfl, rfl, rfl⟩, rfl⟩
    · clear hl
      go_wp2_with fail
      go_ret
      exact ⟨rfl, rfl⟩
theorem cut_int_from (a : Option Addr) (n c k : Nat) (w : World) (h : k ≤ n) : (Instr.slice 23 (.slice a n c) (some (.int .i64 (k : Int))) none none).run Try.prog w = .ok (.slice (fromS 1 a c k) (n - k) (c - k)) w := cut_from (s := 1) (by kernel_rfl) (fun w => by kernel_rfl) a n c k w h
theorem max_nat {ρ : Operand → Value} {o : Oper} {x y : Operand} (ho : o.op = .call { callee := .builtin .max, args := #[x, y], argTypes := #[3, 3] }) (a b : Nat) (hx : ρ x = .int .i64 a) (hy : ρ y = .int .i64 b) (w : World) : (execOp ρ o).run Try.prog w = .ok (.value (.int .i64 (max a b : Nat))) w := by
  unfold execOp
  simp only [ho, hx, hy, resolve, invoke, builtin, Sem.run_bind, Sem.run_pure, Result.andThen_ok, List.map_toArray, List.map_cons, List.map_nil]
  simp [go_sem]
  by_cases hab : a < b
  · rw [if_pos hab, Nat.max_eq_right (by omega)]
  · rw [if_neg hab, Nat.max_eq_left (by omega)]
end Go.Proofs.Ytgkckblcekbafaa
